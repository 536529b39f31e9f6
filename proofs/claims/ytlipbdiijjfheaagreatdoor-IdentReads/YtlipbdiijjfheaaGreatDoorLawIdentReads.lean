/-
  The law IdentReads answers true for every word and every four numbers, in whatever memory where the tables hold what their texts lay: any word is that of one cell, or of none, as the document says; a cell's word with one bit turned, too.
-/
import Derived.Test.YtlipbdiijjfheaaGreatDoorRWCell
import Derived.Test.YtlipbdiijjfheaaGreatDoorICell
import Derived.Test.YtlipbdiijjfheaaGreatDoorIAwake
namespace Go.Proofs.YtlipbdiijjfheaaGreatDoor
open Go.RowKit

theorem wrap_u64 (n : Int) : U64 (IntKind.u64.wrap n) := by
  simp [IntKind.wrap, IntKind.bits, IntKind.signed, U64]
  omega
theorem mask63 (n : Int) : bits .and .i64 n 63 = n % 64 := by
  have := i64_mask n 6 (by omega)
  simpa using this

set_option maxHeartbeats 32000000 in
set_option maxRecDepth 20000 in
theorem identReads_walk (W0 x y r bt : Int) (u0 : 0 ≤ W0) (u1 : W0 ≤ 18446744073709551615) (_x1 : -9223372036854775808 ≤ x) (_x2 : x ≤ 9223372036854775807) (_y1 : -9223372036854775808 ≤ y) (_y2 : y ≤ 9223372036854775807) (_r1 : -9223372036854775808 ≤ r) (_r2 : r ≤ 9223372036854775807) (_b1 : -9223372036854775808 ≤ bt) (_b2 : bt ≤ 9223372036854775807) (w : World) (hT : Five w) :
    Calls Tryz.prog 7 #[.int .u64 W0, .int .i64 x, .int .i64 y, .int .i64 r, .int .i64 bt] w fun e w' => e = .returned (.bool true) ∧ Below w.heap.size w w' := by
  have hW0 : U64 W0 := ⟨u0, by omega⟩
  obtain ⟨s, s12, SO⟩ := aword_any x y r
  replace SO : Hid _ := SO
  have hT0 : Hid (Five w) := hT
  clear hT
  go_enter Tryz.func7, Tryz.ntmps7
  go_wp2_with fail
  refine (SO.out _).mono ?_
  rintro e w1 ⟨⟨P, Q, rfl, hO⟩, d1⟩
  have c1 : Below w.heap.size w w1 := Below.trans (by go_grown) (d1.mono (by simp; try omega))
  have hB := c1
  clear c1 d1
  have hp := word_parts hO
  have hV : U64 (wordOf s P Q) := ⟨by omega, by omega⟩
  obtain ⟨m, em, m0, m1⟩ : ∃ m, bits .and .i64 bt 63 = m ∧ 0 ≤ m ∧ m < 64 := ⟨_, rfl, by rw [mask63]; omega, by rw [mask63]; omega⟩
  obtain ⟨p, ep⟩ : ∃ p : Int, (2 : Int) ^ m.toNat = p := ⟨_, rfl⟩
  have ep' : (2 : Int) ^ min m.toNat 64 = p := by rw [show min m.toNat 64 = m.toNat by omega]; exact ep
  obtain ⟨q, eq'⟩ : ∃ q, IntKind.u64.wrap p = q := ⟨_, rfl⟩
  have hq : U64 q := by rw [← eq']; exact wrap_u64 p
  generalize wordOf s P Q = V at *
  obtain ⟨X, eX⟩ : ∃ X, bits .xor .u64 V q = X := ⟨_, rfl⟩
  have hX : U64 X := by rw [← eX]; exact u64_xor_box hV hq
  have m2 : ¬ m < 0 := by omega
  clear hp hO
  go_wp2_with fail
  go_loopw [12] (fun v12 wr => ∃ k : Nat, k ≤ 3 ∧ v12 = .int .i64 (k : Int) ∧ Below w.heap.size w wr) (fun v12 _ => 3 - (intOf v12).toNat)
  case atStart => exact ⟨0, by omega, rfl, hB⟩
  case round =>
    clear hB
    obtain ⟨k, hk, rfl, hB⟩ := hrel
    rcases (show k = 0 ∨ k = 1 ∨ k = 2 ∨ k = 3 by omega) with rfl | rfl | rfl | rfl
    · skip
      by_cases hw : Whole W0
      · have ho := cell_ok hw
        obtain ⟨n, hn⟩ := Int.eq_ofNat_of_zero_le (wR_box W0).1
        have hwc := word_cell hw
        rw [hn] at ho
        rw [hn, Int.toNat_natCast] at hwc
        have C1 : Hid (∀ w, Tabs w → Calls Tryz.prog 14 #[.int .u64 W0] w fun e w' => e = .returned (.tuple #[.agg #[.int .i64 (n : Int), .int .i64 (cellA W0), .int .i64 (cellB W0)], .int .i64 0]) ∧ Below w.heap.size w w') := fun w hT => by
          have := icell_yes _ hw w hT
          rwa [hn] at this
        have C2 : Hid (∀ w, Calls Tryz.prog 22 #[.int .u64 W0] w fun e w' => e = .returned (.tuple #[.agg #[.int .i64 (n : Int), .int .i64 (cellA W0), .int .i64 (cellB W0)], .int .i64 0]) ∧ Below w.heap.size w w') := fun w => by
          have := rwcell_yes _ hw w
          rwa [hn] at this
        have K1 : Hid (∀ w, Calls Tryz.prog 12 #[.int .u64 W0] w fun e w' => e = .returned (.bool true) ∧ Below w.heap.size w w') := iok _ hW0 true (by simp [hw])
        have OF : Hid (∀ w, Tabs w → Calls Tryz.prog 18 #[.agg #[.int .i64 (n : Int), .int .i64 (cellA W0), .int .i64 (cellB W0)]] w fun e w' => e = .returned (.tuple #[.int .u64 W0, .int .i64 0]) ∧ Below w.heap.size w w') := fun w hT => by
          have := iof_yes n _ _ ho w hT
          rwa [hwc] at this
        have RS : Hid (∀ w, Calls Tryz.prog 10 #[.int .u64 W0] w fun e w' => e = .returned (.int .i64 (n : Int)) ∧ Below w.heap.size w w') := fun w => by
          have := ires_yes _ hw w
          rwa [hn] at this
        by_cases h0 : wR W0 = 0
        · have PA : Hid (∀ w, Calls Tryz.prog 11 #[.int .u64 W0] w fun e w' => e = .returned (.tuple #[.int .u64 0, .int .i64 3]) ∧ Below w.heap.size w w') := iparent_top _ hw h0
          have PU : Hid (∀ w, Calls Tryz.prog 23 #[.int .u64 W0] w fun e w' => e = .returned (.tuple #[.int .u64 0, .int .i64 3]) ∧ Below w.heap.size w w') := rup_top _ hw h0
          generalize cellA W0 = CA at *
          generalize cellB W0 = CB at *
          clear hw ho hwc hn h0
          go_wp2_with fail
          refine (C1.out _ ?_).mono ?_
          · exact hT0.out.1.below (belowT hB (by go_grown))
          rintro e v1 ⟨rfl, d1⟩
          have c1 : Below wr.heap.size wr v1 := Below.trans (by go_grown) (d1.mono (by simp; try omega))
          replace hB := belowT hB c1
          clear c1 d1
          go_wp2_with fail
          refine (C2.out _).mono ?_
          rintro e v2 ⟨rfl, d2⟩
          have c2 : Below v1.heap.size v1 v2 := Below.trans (by go_grown) (d2.mono (by simp; try omega))
          have ka : v2.cell? ⟨v1.heap.size, 0, none⟩ = some (.int .i64 (n : Int)) := keepCell d2 (by go_simp)
          have qka := World.block_lt_of_cell? _ _ ka
          have kb : v2.cell? ⟨v1.heap.size, 1, none⟩ = some (.int .i64 CA) := keepCell d2 (by go_simp)
          have kc : v2.cell? ⟨v1.heap.size, 2, none⟩ = some (.int .i64 CB) := keepCell d2 (by go_simp)
          replace hB := belowT hB c2
          clear c2 d2
          go_wp2_with fail
          refine (K1.out _).mono ?_
          rintro e v3 ⟨rfl, d3⟩
          have c3 : Below v2.heap.size v2 v3 := Below.trans (by go_grown) (d3.mono (by simp; try omega))
          replace ka := keepCell c3 ka
          replace qka := World.block_lt_of_cell? _ _ ka
          replace kb := keepCell c3 kb
          replace kc := keepCell c3 kc
          have la : v3.cell? ⟨v2.heap.size, 0, none⟩ = some (.int .i64 (n : Int)) := keepCell d3 (by go_simp)
          have qla := World.block_lt_of_cell? _ _ la
          have lb : v3.cell? ⟨v2.heap.size, 1, none⟩ = some (.int .i64 CA) := keepCell d3 (by go_simp)
          have lc : v3.cell? ⟨v2.heap.size, 2, none⟩ = some (.int .i64 CB) := keepCell d3 (by go_simp)
          replace hB := belowT hB c3
          clear c3 d3
          go_wp2_with fail
          refine (OF.out _ ?_).mono ?_
          · exact hT0.out.1.below (belowT hB (by go_grown))
          rintro e v4 ⟨rfl, d4⟩
          have c4 : Below v3.heap.size v3 v4 := Below.trans (by go_grown) (d4.mono (by simp; try omega))
          replace ka := keepCell c4 ka
          replace qka := World.block_lt_of_cell? _ _ ka
          replace kb := keepCell c4 kb
          replace kc := keepCell c4 kc
          replace la := keepCell c4 la
          replace qla := World.block_lt_of_cell? _ _ la
          replace lb := keepCell c4 lb
          replace lc := keepCell c4 lc
          replace hB := belowT hB c4
          clear c4 d4
          go_wp2_with fail
          refine (PA.out _).mono ?_
          rintro e v5 ⟨rfl, d5⟩
          have c5 : Below v4.heap.size v4 v5 := Below.trans (by go_grown) (d5.mono (by simp; try omega))
          replace ka := keepCell c5 ka
          replace qka := World.block_lt_of_cell? _ _ ka
          replace kb := keepCell c5 kb
          replace kc := keepCell c5 kc
          replace la := keepCell c5 la
          replace qla := World.block_lt_of_cell? _ _ la
          replace lb := keepCell c5 lb
          replace lc := keepCell c5 lc
          replace hB := belowT hB c5
          clear c5 d5
          go_wp2_with fail
          refine (PU.out _).mono ?_
          rintro e v6 ⟨rfl, d6⟩
          have c6 : Below v5.heap.size v5 v6 := Below.trans (by go_grown) (d6.mono (by simp; try omega))
          replace ka := keepCell c6 ka
          replace qka := World.block_lt_of_cell? _ _ ka
          replace kb := keepCell c6 kb
          replace kc := keepCell c6 kc
          replace la := keepCell c6 la
          replace qla := World.block_lt_of_cell? _ _ la
          replace lb := keepCell c6 lb
          replace lc := keepCell c6 lc
          replace hB := belowT hB c6
          clear c6 d6
          go_wp2_with fail
          refine (RS.out _).mono ?_
          rintro e v7 ⟨rfl, d7⟩
          have c7 : Below v6.heap.size v6 v7 := Below.trans (by go_grown) (d7.mono (by simp; try omega))
          replace ka := keepCell c7 ka
          replace qka := World.block_lt_of_cell? _ _ ka
          replace kb := keepCell c7 kb
          replace kc := keepCell c7 kc
          replace la := keepCell c7 la
          replace qla := World.block_lt_of_cell? _ _ la
          replace lb := keepCell c7 lb
          replace lc := keepCell c7 lc
          replace hB := belowT hB c7
          clear c7 d7
          go_wp2
          go_roundw
          case rel => exact ⟨0 + 1, by omega, rfl, hB⟩
          case measure => simp [intOf]
        · have h1 : 0 < wR W0 := by have := wR_box W0; omega
          have PA : Hid (∀ w, Calls Tryz.prog 11 #[.int .u64 W0] w fun e w' => e = .returned (.tuple #[.int .u64 (upW W0), .int .i64 0]) ∧ Below w.heap.size w w') := iparent_yes _ hw h1
          have PU : Hid (∀ w, Calls Tryz.prog 23 #[.int .u64 W0] w fun e w' => e = .returned (.tuple #[.int .u64 (upW W0), .int .i64 0]) ∧ Below w.heap.size w w') := rup_yes2 _ hw h1
          generalize cellA W0 = CA at *
          generalize cellB W0 = CB at *
          generalize upW W0 = UP at *
          clear hw ho hwc hn h0 h1
          go_wp2_with fail
          refine (C1.out _ ?_).mono ?_
          · exact hT0.out.1.below (belowT hB (by go_grown))
          rintro e v1 ⟨rfl, d1⟩
          have c1 : Below wr.heap.size wr v1 := Below.trans (by go_grown) (d1.mono (by simp; try omega))
          replace hB := belowT hB c1
          clear c1 d1
          go_wp2_with fail
          refine (C2.out _).mono ?_
          rintro e v2 ⟨rfl, d2⟩
          have c2 : Below v1.heap.size v1 v2 := Below.trans (by go_grown) (d2.mono (by simp; try omega))
          have ka : v2.cell? ⟨v1.heap.size, 0, none⟩ = some (.int .i64 (n : Int)) := keepCell d2 (by go_simp)
          have qka := World.block_lt_of_cell? _ _ ka
          have kb : v2.cell? ⟨v1.heap.size, 1, none⟩ = some (.int .i64 CA) := keepCell d2 (by go_simp)
          have kc : v2.cell? ⟨v1.heap.size, 2, none⟩ = some (.int .i64 CB) := keepCell d2 (by go_simp)
          replace hB := belowT hB c2
          clear c2 d2
          go_wp2_with fail
          refine (K1.out _).mono ?_
          rintro e v3 ⟨rfl, d3⟩
          have c3 : Below v2.heap.size v2 v3 := Below.trans (by go_grown) (d3.mono (by simp; try omega))
          replace ka := keepCell c3 ka
          replace qka := World.block_lt_of_cell? _ _ ka
          replace kb := keepCell c3 kb
          replace kc := keepCell c3 kc
          have la : v3.cell? ⟨v2.heap.size, 0, none⟩ = some (.int .i64 (n : Int)) := keepCell d3 (by go_simp)
          have qla := World.block_lt_of_cell? _ _ la
          have lb : v3.cell? ⟨v2.heap.size, 1, none⟩ = some (.int .i64 CA) := keepCell d3 (by go_simp)
          have lc : v3.cell? ⟨v2.heap.size, 2, none⟩ = some (.int .i64 CB) := keepCell d3 (by go_simp)
          replace hB := belowT hB c3
          clear c3 d3
          go_wp2_with fail
          refine (OF.out _ ?_).mono ?_
          · exact hT0.out.1.below (belowT hB (by go_grown))
          rintro e v4 ⟨rfl, d4⟩
          have c4 : Below v3.heap.size v3 v4 := Below.trans (by go_grown) (d4.mono (by simp; try omega))
          replace ka := keepCell c4 ka
          replace qka := World.block_lt_of_cell? _ _ ka
          replace kb := keepCell c4 kb
          replace kc := keepCell c4 kc
          replace la := keepCell c4 la
          replace qla := World.block_lt_of_cell? _ _ la
          replace lb := keepCell c4 lb
          replace lc := keepCell c4 lc
          replace hB := belowT hB c4
          clear c4 d4
          go_wp2_with fail
          refine (PA.out _).mono ?_
          rintro e v5 ⟨rfl, d5⟩
          have c5 : Below v4.heap.size v4 v5 := Below.trans (by go_grown) (d5.mono (by simp; try omega))
          replace ka := keepCell c5 ka
          replace qka := World.block_lt_of_cell? _ _ ka
          replace kb := keepCell c5 kb
          replace kc := keepCell c5 kc
          replace la := keepCell c5 la
          replace qla := World.block_lt_of_cell? _ _ la
          replace lb := keepCell c5 lb
          replace lc := keepCell c5 lc
          replace hB := belowT hB c5
          clear c5 d5
          go_wp2_with fail
          refine (PU.out _).mono ?_
          rintro e v6 ⟨rfl, d6⟩
          have c6 : Below v5.heap.size v5 v6 := Below.trans (by go_grown) (d6.mono (by simp; try omega))
          replace ka := keepCell c6 ka
          replace qka := World.block_lt_of_cell? _ _ ka
          replace kb := keepCell c6 kb
          replace kc := keepCell c6 kc
          replace la := keepCell c6 la
          replace qla := World.block_lt_of_cell? _ _ la
          replace lb := keepCell c6 lb
          replace lc := keepCell c6 lc
          replace hB := belowT hB c6
          clear c6 d6
          go_wp2_with fail
          refine (RS.out _).mono ?_
          rintro e v7 ⟨rfl, d7⟩
          have c7 : Below v6.heap.size v6 v7 := Below.trans (by go_grown) (d7.mono (by simp; try omega))
          replace ka := keepCell c7 ka
          replace qka := World.block_lt_of_cell? _ _ ka
          replace kb := keepCell c7 kb
          replace kc := keepCell c7 kc
          replace la := keepCell c7 la
          replace qla := World.block_lt_of_cell? _ _ la
          replace lb := keepCell c7 lb
          replace lc := keepCell c7 lc
          replace hB := belowT hB c7
          clear c7 d7
          go_wp2
          go_roundw
          case rel => exact ⟨0 + 1, by omega, rfl, hB⟩
          case measure => simp [intOf]
      · have C1 : Hid (∀ w, Tabs w → Calls Tryz.prog 14 #[.int .u64 W0] w fun e w' => e = .returned (.tuple #[.agg #[.int .i64 0, .int .i64 0, .int .i64 0], .int .i64 5]) ∧ Below w.heap.size w w') := fun w _ => icell_no _ hW0 hw w
        have C2 : Hid (∀ w, Calls Tryz.prog 22 #[.int .u64 W0] w fun e w' => e = .returned (.tuple #[.agg #[.int .i64 0, .int .i64 0, .int .i64 0], .int .i64 5]) ∧ Below w.heap.size w w') := rwcell_no _ hW0 hw
        have K1 : Hid (∀ w, Calls Tryz.prog 12 #[.int .u64 W0] w fun e w' => e = .returned (.bool false) ∧ Below w.heap.size w w') := iok _ hW0 false (by simp [hw])
        have RS : Hid (∀ w, Calls Tryz.prog 10 #[.int .u64 W0] w fun e w' => e = .returned (.int .i64 (-1)) ∧ Below w.heap.size w w') := ires_no _ hW0 hw
        have PA : Hid (∀ w, Calls Tryz.prog 11 #[.int .u64 W0] w fun e w' => e = .returned (.tuple #[.int .u64 0, .int .i64 5]) ∧ Below w.heap.size w w') := iparent_no _ hW0 hw
        have PU : Hid (∀ w, Calls Tryz.prog 23 #[.int .u64 W0] w fun e w' => e = .returned (.tuple #[.int .u64 0, .int .i64 5]) ∧ Below w.heap.size w w') := rup_no _ hW0 hw
        clear hw
        go_wp2_with fail
        refine (C1.out _ ?_).mono ?_
        · exact hT0.out.1.below (belowT hB (by go_grown))
        rintro e v1 ⟨rfl, d1⟩
        have c1 : Below wr.heap.size wr v1 := Below.trans (by go_grown) (d1.mono (by simp; try omega))
        replace hB := belowT hB c1
        clear c1 d1
        go_wp2_with fail
        refine (C2.out _).mono ?_
        rintro e v2 ⟨rfl, d2⟩
        have c2 : Below v1.heap.size v1 v2 := Below.trans (by go_grown) (d2.mono (by simp; try omega))
        have ka : v2.cell? ⟨v1.heap.size, 0, none⟩ = some (.int .i64 0) := keepCell d2 (by go_simp)
        have qka := World.block_lt_of_cell? _ _ ka
        have kb : v2.cell? ⟨v1.heap.size, 1, none⟩ = some (.int .i64 0) := keepCell d2 (by go_simp)
        have kc : v2.cell? ⟨v1.heap.size, 2, none⟩ = some (.int .i64 0) := keepCell d2 (by go_simp)
        replace hB := belowT hB c2
        clear c2 d2
        go_wp2_with fail
        refine (K1.out _).mono ?_
        rintro e v3 ⟨rfl, d3⟩
        have c3 : Below v2.heap.size v2 v3 := Below.trans (by go_grown) (d3.mono (by simp; try omega))
        replace ka := keepCell c3 ka
        replace qka := World.block_lt_of_cell? _ _ ka
        replace kb := keepCell c3 kb
        replace kc := keepCell c3 kc
        have la : v3.cell? ⟨v2.heap.size, 0, none⟩ = some (.int .i64 0) := keepCell d3 (by go_simp)
        have qla := World.block_lt_of_cell? _ _ la
        have lb : v3.cell? ⟨v2.heap.size, 1, none⟩ = some (.int .i64 0) := keepCell d3 (by go_simp)
        have lc : v3.cell? ⟨v2.heap.size, 2, none⟩ = some (.int .i64 0) := keepCell d3 (by go_simp)
        replace hB := belowT hB c3
        clear c3 d3
        go_wp2_with fail
        refine (PA.out _).mono ?_
        rintro e v4 ⟨rfl, d4⟩
        have c4 : Below v3.heap.size v3 v4 := Below.trans (by go_grown) (d4.mono (by simp; try omega))
        replace ka := keepCell c4 ka
        replace qka := World.block_lt_of_cell? _ _ ka
        replace kb := keepCell c4 kb
        replace kc := keepCell c4 kc
        replace la := keepCell c4 la
        replace qla := World.block_lt_of_cell? _ _ la
        replace lb := keepCell c4 lb
        replace lc := keepCell c4 lc
        replace hB := belowT hB c4
        clear c4 d4
        go_wp2_with fail
        refine (PU.out _).mono ?_
        rintro e v5 ⟨rfl, d5⟩
        have c5 : Below v4.heap.size v4 v5 := Below.trans (by go_grown) (d5.mono (by simp; try omega))
        replace ka := keepCell c5 ka
        replace qka := World.block_lt_of_cell? _ _ ka
        replace kb := keepCell c5 kb
        replace kc := keepCell c5 kc
        replace la := keepCell c5 la
        replace qla := World.block_lt_of_cell? _ _ la
        replace lb := keepCell c5 lb
        replace lc := keepCell c5 lc
        replace hB := belowT hB c5
        clear c5 d5
        go_wp2_with fail
        refine (RS.out _).mono ?_
        rintro e v6 ⟨rfl, d6⟩
        have c6 : Below v5.heap.size v5 v6 := Below.trans (by go_grown) (d6.mono (by simp; try omega))
        replace ka := keepCell c6 ka
        replace qka := World.block_lt_of_cell? _ _ ka
        replace kb := keepCell c6 kb
        replace kc := keepCell c6 kc
        replace la := keepCell c6 la
        replace qla := World.block_lt_of_cell? _ _ la
        replace lb := keepCell c6 lb
        replace lc := keepCell c6 lc
        replace hB := belowT hB c6
        clear c6 d6
        go_wp2
        go_roundw
        case rel => exact ⟨0 + 1, by omega, rfl, hB⟩
        case measure => simp [intOf]
    · skip
      by_cases hw : Whole V
      · have ho := cell_ok hw
        obtain ⟨n, hn⟩ := Int.eq_ofNat_of_zero_le (wR_box V).1
        have hwc := word_cell hw
        rw [hn] at ho
        rw [hn, Int.toNat_natCast] at hwc
        have C1 : Hid (∀ w, Tabs w → Calls Tryz.prog 14 #[.int .u64 V] w fun e w' => e = .returned (.tuple #[.agg #[.int .i64 (n : Int), .int .i64 (cellA V), .int .i64 (cellB V)], .int .i64 0]) ∧ Below w.heap.size w w') := fun w hT => by
          have := icell_yes _ hw w hT
          rwa [hn] at this
        have C2 : Hid (∀ w, Calls Tryz.prog 22 #[.int .u64 V] w fun e w' => e = .returned (.tuple #[.agg #[.int .i64 (n : Int), .int .i64 (cellA V), .int .i64 (cellB V)], .int .i64 0]) ∧ Below w.heap.size w w') := fun w => by
          have := rwcell_yes _ hw w
          rwa [hn] at this
        have K1 : Hid (∀ w, Calls Tryz.prog 12 #[.int .u64 V] w fun e w' => e = .returned (.bool true) ∧ Below w.heap.size w w') := iok _ hV true (by simp [hw])
        have OF : Hid (∀ w, Tabs w → Calls Tryz.prog 18 #[.agg #[.int .i64 (n : Int), .int .i64 (cellA V), .int .i64 (cellB V)]] w fun e w' => e = .returned (.tuple #[.int .u64 V, .int .i64 0]) ∧ Below w.heap.size w w') := fun w hT => by
          have := iof_yes n _ _ ho w hT
          rwa [hwc] at this
        have RS : Hid (∀ w, Calls Tryz.prog 10 #[.int .u64 V] w fun e w' => e = .returned (.int .i64 (n : Int)) ∧ Below w.heap.size w w') := fun w => by
          have := ires_yes _ hw w
          rwa [hn] at this
        by_cases h0 : wR V = 0
        · have PA : Hid (∀ w, Calls Tryz.prog 11 #[.int .u64 V] w fun e w' => e = .returned (.tuple #[.int .u64 0, .int .i64 3]) ∧ Below w.heap.size w w') := iparent_top _ hw h0
          have PU : Hid (∀ w, Calls Tryz.prog 23 #[.int .u64 V] w fun e w' => e = .returned (.tuple #[.int .u64 0, .int .i64 3]) ∧ Below w.heap.size w w') := rup_top _ hw h0
          generalize cellA V = CA at *
          generalize cellB V = CB at *
          clear hw ho hwc hn h0
          go_wp2_with fail
          refine (C1.out _ ?_).mono ?_
          · exact hT0.out.1.below (belowT hB (by go_grown))
          rintro e v1 ⟨rfl, d1⟩
          have c1 : Below wr.heap.size wr v1 := Below.trans (by go_grown) (d1.mono (by simp; try omega))
          replace hB := belowT hB c1
          clear c1 d1
          go_wp2_with fail
          refine (C2.out _).mono ?_
          rintro e v2 ⟨rfl, d2⟩
          have c2 : Below v1.heap.size v1 v2 := Below.trans (by go_grown) (d2.mono (by simp; try omega))
          have ka : v2.cell? ⟨v1.heap.size, 0, none⟩ = some (.int .i64 (n : Int)) := keepCell d2 (by go_simp)
          have qka := World.block_lt_of_cell? _ _ ka
          have kb : v2.cell? ⟨v1.heap.size, 1, none⟩ = some (.int .i64 CA) := keepCell d2 (by go_simp)
          have kc : v2.cell? ⟨v1.heap.size, 2, none⟩ = some (.int .i64 CB) := keepCell d2 (by go_simp)
          replace hB := belowT hB c2
          clear c2 d2
          go_wp2_with fail
          refine (K1.out _).mono ?_
          rintro e v3 ⟨rfl, d3⟩
          have c3 : Below v2.heap.size v2 v3 := Below.trans (by go_grown) (d3.mono (by simp; try omega))
          replace ka := keepCell c3 ka
          replace qka := World.block_lt_of_cell? _ _ ka
          replace kb := keepCell c3 kb
          replace kc := keepCell c3 kc
          have la : v3.cell? ⟨v2.heap.size, 0, none⟩ = some (.int .i64 (n : Int)) := keepCell d3 (by go_simp)
          have qla := World.block_lt_of_cell? _ _ la
          have lb : v3.cell? ⟨v2.heap.size, 1, none⟩ = some (.int .i64 CA) := keepCell d3 (by go_simp)
          have lc : v3.cell? ⟨v2.heap.size, 2, none⟩ = some (.int .i64 CB) := keepCell d3 (by go_simp)
          replace hB := belowT hB c3
          clear c3 d3
          go_wp2_with fail
          refine (OF.out _ ?_).mono ?_
          · exact hT0.out.1.below (belowT hB (by go_grown))
          rintro e v4 ⟨rfl, d4⟩
          have c4 : Below v3.heap.size v3 v4 := Below.trans (by go_grown) (d4.mono (by simp; try omega))
          replace ka := keepCell c4 ka
          replace qka := World.block_lt_of_cell? _ _ ka
          replace kb := keepCell c4 kb
          replace kc := keepCell c4 kc
          replace la := keepCell c4 la
          replace qla := World.block_lt_of_cell? _ _ la
          replace lb := keepCell c4 lb
          replace lc := keepCell c4 lc
          replace hB := belowT hB c4
          clear c4 d4
          go_wp2_with fail
          refine (PA.out _).mono ?_
          rintro e v5 ⟨rfl, d5⟩
          have c5 : Below v4.heap.size v4 v5 := Below.trans (by go_grown) (d5.mono (by simp; try omega))
          replace ka := keepCell c5 ka
          replace qka := World.block_lt_of_cell? _ _ ka
          replace kb := keepCell c5 kb
          replace kc := keepCell c5 kc
          replace la := keepCell c5 la
          replace qla := World.block_lt_of_cell? _ _ la
          replace lb := keepCell c5 lb
          replace lc := keepCell c5 lc
          replace hB := belowT hB c5
          clear c5 d5
          go_wp2_with fail
          refine (PU.out _).mono ?_
          rintro e v6 ⟨rfl, d6⟩
          have c6 : Below v5.heap.size v5 v6 := Below.trans (by go_grown) (d6.mono (by simp; try omega))
          replace ka := keepCell c6 ka
          replace qka := World.block_lt_of_cell? _ _ ka
          replace kb := keepCell c6 kb
          replace kc := keepCell c6 kc
          replace la := keepCell c6 la
          replace qla := World.block_lt_of_cell? _ _ la
          replace lb := keepCell c6 lb
          replace lc := keepCell c6 lc
          replace hB := belowT hB c6
          clear c6 d6
          go_wp2_with fail
          refine (RS.out _).mono ?_
          rintro e v7 ⟨rfl, d7⟩
          have c7 : Below v6.heap.size v6 v7 := Below.trans (by go_grown) (d7.mono (by simp; try omega))
          replace ka := keepCell c7 ka
          replace qka := World.block_lt_of_cell? _ _ ka
          replace kb := keepCell c7 kb
          replace kc := keepCell c7 kc
          replace la := keepCell c7 la
          replace qla := World.block_lt_of_cell? _ _ la
          replace lb := keepCell c7 lb
          replace lc := keepCell c7 lc
          replace hB := belowT hB c7
          clear c7 d7
          go_wp2
          go_roundw
          case rel => exact ⟨1 + 1, by omega, rfl, hB⟩
          case measure => simp [intOf]
        · have h1 : 0 < wR V := by have := wR_box V; omega
          have PA : Hid (∀ w, Calls Tryz.prog 11 #[.int .u64 V] w fun e w' => e = .returned (.tuple #[.int .u64 (upW V), .int .i64 0]) ∧ Below w.heap.size w w') := iparent_yes _ hw h1
          have PU : Hid (∀ w, Calls Tryz.prog 23 #[.int .u64 V] w fun e w' => e = .returned (.tuple #[.int .u64 (upW V), .int .i64 0]) ∧ Below w.heap.size w w') := rup_yes2 _ hw h1
          generalize cellA V = CA at *
          generalize cellB V = CB at *
          generalize upW V = UP at *
          clear hw ho hwc hn h0 h1
          go_wp2_with fail
          refine (C1.out _ ?_).mono ?_
          · exact hT0.out.1.below (belowT hB (by go_grown))
          rintro e v1 ⟨rfl, d1⟩
          have c1 : Below wr.heap.size wr v1 := Below.trans (by go_grown) (d1.mono (by simp; try omega))
          replace hB := belowT hB c1
          clear c1 d1
          go_wp2_with fail
          refine (C2.out _).mono ?_
          rintro e v2 ⟨rfl, d2⟩
          have c2 : Below v1.heap.size v1 v2 := Below.trans (by go_grown) (d2.mono (by simp; try omega))
          have ka : v2.cell? ⟨v1.heap.size, 0, none⟩ = some (.int .i64 (n : Int)) := keepCell d2 (by go_simp)
          have qka := World.block_lt_of_cell? _ _ ka
          have kb : v2.cell? ⟨v1.heap.size, 1, none⟩ = some (.int .i64 CA) := keepCell d2 (by go_simp)
          have kc : v2.cell? ⟨v1.heap.size, 2, none⟩ = some (.int .i64 CB) := keepCell d2 (by go_simp)
          replace hB := belowT hB c2
          clear c2 d2
          go_wp2_with fail
          refine (K1.out _).mono ?_
          rintro e v3 ⟨rfl, d3⟩
          have c3 : Below v2.heap.size v2 v3 := Below.trans (by go_grown) (d3.mono (by simp; try omega))
          replace ka := keepCell c3 ka
          replace qka := World.block_lt_of_cell? _ _ ka
          replace kb := keepCell c3 kb
          replace kc := keepCell c3 kc
          have la : v3.cell? ⟨v2.heap.size, 0, none⟩ = some (.int .i64 (n : Int)) := keepCell d3 (by go_simp)
          have qla := World.block_lt_of_cell? _ _ la
          have lb : v3.cell? ⟨v2.heap.size, 1, none⟩ = some (.int .i64 CA) := keepCell d3 (by go_simp)
          have lc : v3.cell? ⟨v2.heap.size, 2, none⟩ = some (.int .i64 CB) := keepCell d3 (by go_simp)
          replace hB := belowT hB c3
          clear c3 d3
          go_wp2_with fail
          refine (OF.out _ ?_).mono ?_
          · exact hT0.out.1.below (belowT hB (by go_grown))
          rintro e v4 ⟨rfl, d4⟩
          have c4 : Below v3.heap.size v3 v4 := Below.trans (by go_grown) (d4.mono (by simp; try omega))
          replace ka := keepCell c4 ka
          replace qka := World.block_lt_of_cell? _ _ ka
          replace kb := keepCell c4 kb
          replace kc := keepCell c4 kc
          replace la := keepCell c4 la
          replace qla := World.block_lt_of_cell? _ _ la
          replace lb := keepCell c4 lb
          replace lc := keepCell c4 lc
          replace hB := belowT hB c4
          clear c4 d4
          go_wp2_with fail
          refine (PA.out _).mono ?_
          rintro e v5 ⟨rfl, d5⟩
          have c5 : Below v4.heap.size v4 v5 := Below.trans (by go_grown) (d5.mono (by simp; try omega))
          replace ka := keepCell c5 ka
          replace qka := World.block_lt_of_cell? _ _ ka
          replace kb := keepCell c5 kb
          replace kc := keepCell c5 kc
          replace la := keepCell c5 la
          replace qla := World.block_lt_of_cell? _ _ la
          replace lb := keepCell c5 lb
          replace lc := keepCell c5 lc
          replace hB := belowT hB c5
          clear c5 d5
          go_wp2_with fail
          refine (PU.out _).mono ?_
          rintro e v6 ⟨rfl, d6⟩
          have c6 : Below v5.heap.size v5 v6 := Below.trans (by go_grown) (d6.mono (by simp; try omega))
          replace ka := keepCell c6 ka
          replace qka := World.block_lt_of_cell? _ _ ka
          replace kb := keepCell c6 kb
          replace kc := keepCell c6 kc
          replace la := keepCell c6 la
          replace qla := World.block_lt_of_cell? _ _ la
          replace lb := keepCell c6 lb
          replace lc := keepCell c6 lc
          replace hB := belowT hB c6
          clear c6 d6
          go_wp2_with fail
          refine (RS.out _).mono ?_
          rintro e v7 ⟨rfl, d7⟩
          have c7 : Below v6.heap.size v6 v7 := Below.trans (by go_grown) (d7.mono (by simp; try omega))
          replace ka := keepCell c7 ka
          replace qka := World.block_lt_of_cell? _ _ ka
          replace kb := keepCell c7 kb
          replace kc := keepCell c7 kc
          replace la := keepCell c7 la
          replace qla := World.block_lt_of_cell? _ _ la
          replace lb := keepCell c7 lb
          replace lc := keepCell c7 lc
          replace hB := belowT hB c7
          clear c7 d7
          go_wp2
          go_roundw
          case rel => exact ⟨1 + 1, by omega, rfl, hB⟩
          case measure => simp [intOf]
      · have C1 : Hid (∀ w, Tabs w → Calls Tryz.prog 14 #[.int .u64 V] w fun e w' => e = .returned (.tuple #[.agg #[.int .i64 0, .int .i64 0, .int .i64 0], .int .i64 5]) ∧ Below w.heap.size w w') := fun w _ => icell_no _ hV hw w
        have C2 : Hid (∀ w, Calls Tryz.prog 22 #[.int .u64 V] w fun e w' => e = .returned (.tuple #[.agg #[.int .i64 0, .int .i64 0, .int .i64 0], .int .i64 5]) ∧ Below w.heap.size w w') := rwcell_no _ hV hw
        have K1 : Hid (∀ w, Calls Tryz.prog 12 #[.int .u64 V] w fun e w' => e = .returned (.bool false) ∧ Below w.heap.size w w') := iok _ hV false (by simp [hw])
        have RS : Hid (∀ w, Calls Tryz.prog 10 #[.int .u64 V] w fun e w' => e = .returned (.int .i64 (-1)) ∧ Below w.heap.size w w') := ires_no _ hV hw
        have PA : Hid (∀ w, Calls Tryz.prog 11 #[.int .u64 V] w fun e w' => e = .returned (.tuple #[.int .u64 0, .int .i64 5]) ∧ Below w.heap.size w w') := iparent_no _ hV hw
        have PU : Hid (∀ w, Calls Tryz.prog 23 #[.int .u64 V] w fun e w' => e = .returned (.tuple #[.int .u64 0, .int .i64 5]) ∧ Below w.heap.size w w') := rup_no _ hV hw
        clear hw
        go_wp2_with fail
        refine (C1.out _ ?_).mono ?_
        · exact hT0.out.1.below (belowT hB (by go_grown))
        rintro e v1 ⟨rfl, d1⟩
        have c1 : Below wr.heap.size wr v1 := Below.trans (by go_grown) (d1.mono (by simp; try omega))
        replace hB := belowT hB c1
        clear c1 d1
        go_wp2_with fail
        refine (C2.out _).mono ?_
        rintro e v2 ⟨rfl, d2⟩
        have c2 : Below v1.heap.size v1 v2 := Below.trans (by go_grown) (d2.mono (by simp; try omega))
        have ka : v2.cell? ⟨v1.heap.size, 0, none⟩ = some (.int .i64 0) := keepCell d2 (by go_simp)
        have qka := World.block_lt_of_cell? _ _ ka
        have kb : v2.cell? ⟨v1.heap.size, 1, none⟩ = some (.int .i64 0) := keepCell d2 (by go_simp)
        have kc : v2.cell? ⟨v1.heap.size, 2, none⟩ = some (.int .i64 0) := keepCell d2 (by go_simp)
        replace hB := belowT hB c2
        clear c2 d2
        go_wp2_with fail
        refine (K1.out _).mono ?_
        rintro e v3 ⟨rfl, d3⟩
        have c3 : Below v2.heap.size v2 v3 := Below.trans (by go_grown) (d3.mono (by simp; try omega))
        replace ka := keepCell c3 ka
        replace qka := World.block_lt_of_cell? _ _ ka
        replace kb := keepCell c3 kb
        replace kc := keepCell c3 kc
        have la : v3.cell? ⟨v2.heap.size, 0, none⟩ = some (.int .i64 0) := keepCell d3 (by go_simp)
        have qla := World.block_lt_of_cell? _ _ la
        have lb : v3.cell? ⟨v2.heap.size, 1, none⟩ = some (.int .i64 0) := keepCell d3 (by go_simp)
        have lc : v3.cell? ⟨v2.heap.size, 2, none⟩ = some (.int .i64 0) := keepCell d3 (by go_simp)
        replace hB := belowT hB c3
        clear c3 d3
        go_wp2_with fail
        refine (PA.out _).mono ?_
        rintro e v4 ⟨rfl, d4⟩
        have c4 : Below v3.heap.size v3 v4 := Below.trans (by go_grown) (d4.mono (by simp; try omega))
        replace ka := keepCell c4 ka
        replace qka := World.block_lt_of_cell? _ _ ka
        replace kb := keepCell c4 kb
        replace kc := keepCell c4 kc
        replace la := keepCell c4 la
        replace qla := World.block_lt_of_cell? _ _ la
        replace lb := keepCell c4 lb
        replace lc := keepCell c4 lc
        replace hB := belowT hB c4
        clear c4 d4
        go_wp2_with fail
        refine (PU.out _).mono ?_
        rintro e v5 ⟨rfl, d5⟩
        have c5 : Below v4.heap.size v4 v5 := Below.trans (by go_grown) (d5.mono (by simp; try omega))
        replace ka := keepCell c5 ka
        replace qka := World.block_lt_of_cell? _ _ ka
        replace kb := keepCell c5 kb
        replace kc := keepCell c5 kc
        replace la := keepCell c5 la
        replace qla := World.block_lt_of_cell? _ _ la
        replace lb := keepCell c5 lb
        replace lc := keepCell c5 lc
        replace hB := belowT hB c5
        clear c5 d5
        go_wp2_with fail
        refine (RS.out _).mono ?_
        rintro e v6 ⟨rfl, d6⟩
        have c6 : Below v5.heap.size v5 v6 := Below.trans (by go_grown) (d6.mono (by simp; try omega))
        replace ka := keepCell c6 ka
        replace qka := World.block_lt_of_cell? _ _ ka
        replace kb := keepCell c6 kb
        replace kc := keepCell c6 kc
        replace la := keepCell c6 la
        replace qla := World.block_lt_of_cell? _ _ la
        replace lb := keepCell c6 lb
        replace lc := keepCell c6 lc
        replace hB := belowT hB c6
        clear c6 d6
        go_wp2
        go_roundw
        case rel => exact ⟨1 + 1, by omega, rfl, hB⟩
        case measure => simp [intOf]
    · skip
      by_cases hw : Whole X
      · have ho := cell_ok hw
        obtain ⟨n, hn⟩ := Int.eq_ofNat_of_zero_le (wR_box X).1
        have hwc := word_cell hw
        rw [hn] at ho
        rw [hn, Int.toNat_natCast] at hwc
        have C1 : Hid (∀ w, Tabs w → Calls Tryz.prog 14 #[.int .u64 X] w fun e w' => e = .returned (.tuple #[.agg #[.int .i64 (n : Int), .int .i64 (cellA X), .int .i64 (cellB X)], .int .i64 0]) ∧ Below w.heap.size w w') := fun w hT => by
          have := icell_yes _ hw w hT
          rwa [hn] at this
        have C2 : Hid (∀ w, Calls Tryz.prog 22 #[.int .u64 X] w fun e w' => e = .returned (.tuple #[.agg #[.int .i64 (n : Int), .int .i64 (cellA X), .int .i64 (cellB X)], .int .i64 0]) ∧ Below w.heap.size w w') := fun w => by
          have := rwcell_yes _ hw w
          rwa [hn] at this
        have K1 : Hid (∀ w, Calls Tryz.prog 12 #[.int .u64 X] w fun e w' => e = .returned (.bool true) ∧ Below w.heap.size w w') := iok _ hX true (by simp [hw])
        have OF : Hid (∀ w, Tabs w → Calls Tryz.prog 18 #[.agg #[.int .i64 (n : Int), .int .i64 (cellA X), .int .i64 (cellB X)]] w fun e w' => e = .returned (.tuple #[.int .u64 X, .int .i64 0]) ∧ Below w.heap.size w w') := fun w hT => by
          have := iof_yes n _ _ ho w hT
          rwa [hwc] at this
        have RS : Hid (∀ w, Calls Tryz.prog 10 #[.int .u64 X] w fun e w' => e = .returned (.int .i64 (n : Int)) ∧ Below w.heap.size w w') := fun w => by
          have := ires_yes _ hw w
          rwa [hn] at this
        by_cases h0 : wR X = 0
        · have PA : Hid (∀ w, Calls Tryz.prog 11 #[.int .u64 X] w fun e w' => e = .returned (.tuple #[.int .u64 0, .int .i64 3]) ∧ Below w.heap.size w w') := iparent_top _ hw h0
          have PU : Hid (∀ w, Calls Tryz.prog 23 #[.int .u64 X] w fun e w' => e = .returned (.tuple #[.int .u64 0, .int .i64 3]) ∧ Below w.heap.size w w') := rup_top _ hw h0
          generalize cellA X = CA at *
          generalize cellB X = CB at *
          clear hw ho hwc hn h0
          go_wp2_with fail
          refine (C1.out _ ?_).mono ?_
          · exact hT0.out.1.below (belowT hB (by go_grown))
          rintro e v1 ⟨rfl, d1⟩
          have c1 : Below wr.heap.size wr v1 := Below.trans (by go_grown) (d1.mono (by simp; try omega))
          replace hB := belowT hB c1
          clear c1 d1
          go_wp2_with fail
          refine (C2.out _).mono ?_
          rintro e v2 ⟨rfl, d2⟩
          have c2 : Below v1.heap.size v1 v2 := Below.trans (by go_grown) (d2.mono (by simp; try omega))
          have ka : v2.cell? ⟨v1.heap.size, 0, none⟩ = some (.int .i64 (n : Int)) := keepCell d2 (by go_simp)
          have qka := World.block_lt_of_cell? _ _ ka
          have kb : v2.cell? ⟨v1.heap.size, 1, none⟩ = some (.int .i64 CA) := keepCell d2 (by go_simp)
          have kc : v2.cell? ⟨v1.heap.size, 2, none⟩ = some (.int .i64 CB) := keepCell d2 (by go_simp)
          replace hB := belowT hB c2
          clear c2 d2
          go_wp2_with fail
          refine (K1.out _).mono ?_
          rintro e v3 ⟨rfl, d3⟩
          have c3 : Below v2.heap.size v2 v3 := Below.trans (by go_grown) (d3.mono (by simp; try omega))
          replace ka := keepCell c3 ka
          replace qka := World.block_lt_of_cell? _ _ ka
          replace kb := keepCell c3 kb
          replace kc := keepCell c3 kc
          have la : v3.cell? ⟨v2.heap.size, 0, none⟩ = some (.int .i64 (n : Int)) := keepCell d3 (by go_simp)
          have qla := World.block_lt_of_cell? _ _ la
          have lb : v3.cell? ⟨v2.heap.size, 1, none⟩ = some (.int .i64 CA) := keepCell d3 (by go_simp)
          have lc : v3.cell? ⟨v2.heap.size, 2, none⟩ = some (.int .i64 CB) := keepCell d3 (by go_simp)
          replace hB := belowT hB c3
          clear c3 d3
          go_wp2_with fail
          refine (OF.out _ ?_).mono ?_
          · exact hT0.out.1.below (belowT hB (by go_grown))
          rintro e v4 ⟨rfl, d4⟩
          have c4 : Below v3.heap.size v3 v4 := Below.trans (by go_grown) (d4.mono (by simp; try omega))
          replace ka := keepCell c4 ka
          replace qka := World.block_lt_of_cell? _ _ ka
          replace kb := keepCell c4 kb
          replace kc := keepCell c4 kc
          replace la := keepCell c4 la
          replace qla := World.block_lt_of_cell? _ _ la
          replace lb := keepCell c4 lb
          replace lc := keepCell c4 lc
          replace hB := belowT hB c4
          clear c4 d4
          go_wp2_with fail
          refine (PA.out _).mono ?_
          rintro e v5 ⟨rfl, d5⟩
          have c5 : Below v4.heap.size v4 v5 := Below.trans (by go_grown) (d5.mono (by simp; try omega))
          replace ka := keepCell c5 ka
          replace qka := World.block_lt_of_cell? _ _ ka
          replace kb := keepCell c5 kb
          replace kc := keepCell c5 kc
          replace la := keepCell c5 la
          replace qla := World.block_lt_of_cell? _ _ la
          replace lb := keepCell c5 lb
          replace lc := keepCell c5 lc
          replace hB := belowT hB c5
          clear c5 d5
          go_wp2_with fail
          refine (PU.out _).mono ?_
          rintro e v6 ⟨rfl, d6⟩
          have c6 : Below v5.heap.size v5 v6 := Below.trans (by go_grown) (d6.mono (by simp; try omega))
          replace ka := keepCell c6 ka
          replace qka := World.block_lt_of_cell? _ _ ka
          replace kb := keepCell c6 kb
          replace kc := keepCell c6 kc
          replace la := keepCell c6 la
          replace qla := World.block_lt_of_cell? _ _ la
          replace lb := keepCell c6 lb
          replace lc := keepCell c6 lc
          replace hB := belowT hB c6
          clear c6 d6
          go_wp2_with fail
          refine (RS.out _).mono ?_
          rintro e v7 ⟨rfl, d7⟩
          have c7 : Below v6.heap.size v6 v7 := Below.trans (by go_grown) (d7.mono (by simp; try omega))
          replace ka := keepCell c7 ka
          replace qka := World.block_lt_of_cell? _ _ ka
          replace kb := keepCell c7 kb
          replace kc := keepCell c7 kc
          replace la := keepCell c7 la
          replace qla := World.block_lt_of_cell? _ _ la
          replace lb := keepCell c7 lb
          replace lc := keepCell c7 lc
          replace hB := belowT hB c7
          clear c7 d7
          go_wp2
          go_roundw
          case rel => exact ⟨2 + 1, by omega, rfl, hB⟩
          case measure => simp [intOf]
        · have h1 : 0 < wR X := by have := wR_box X; omega
          have PA : Hid (∀ w, Calls Tryz.prog 11 #[.int .u64 X] w fun e w' => e = .returned (.tuple #[.int .u64 (upW X), .int .i64 0]) ∧ Below w.heap.size w w') := iparent_yes _ hw h1
          have PU : Hid (∀ w, Calls Tryz.prog 23 #[.int .u64 X] w fun e w' => e = .returned (.tuple #[.int .u64 (upW X), .int .i64 0]) ∧ Below w.heap.size w w') := rup_yes2 _ hw h1
          generalize cellA X = CA at *
          generalize cellB X = CB at *
          generalize upW X = UP at *
          clear hw ho hwc hn h0 h1
          go_wp2_with fail
          refine (C1.out _ ?_).mono ?_
          · exact hT0.out.1.below (belowT hB (by go_grown))
          rintro e v1 ⟨rfl, d1⟩
          have c1 : Below wr.heap.size wr v1 := Below.trans (by go_grown) (d1.mono (by simp; try omega))
          replace hB := belowT hB c1
          clear c1 d1
          go_wp2_with fail
          refine (C2.out _).mono ?_
          rintro e v2 ⟨rfl, d2⟩
          have c2 : Below v1.heap.size v1 v2 := Below.trans (by go_grown) (d2.mono (by simp; try omega))
          have ka : v2.cell? ⟨v1.heap.size, 0, none⟩ = some (.int .i64 (n : Int)) := keepCell d2 (by go_simp)
          have qka := World.block_lt_of_cell? _ _ ka
          have kb : v2.cell? ⟨v1.heap.size, 1, none⟩ = some (.int .i64 CA) := keepCell d2 (by go_simp)
          have kc : v2.cell? ⟨v1.heap.size, 2, none⟩ = some (.int .i64 CB) := keepCell d2 (by go_simp)
          replace hB := belowT hB c2
          clear c2 d2
          go_wp2_with fail
          refine (K1.out _).mono ?_
          rintro e v3 ⟨rfl, d3⟩
          have c3 : Below v2.heap.size v2 v3 := Below.trans (by go_grown) (d3.mono (by simp; try omega))
          replace ka := keepCell c3 ka
          replace qka := World.block_lt_of_cell? _ _ ka
          replace kb := keepCell c3 kb
          replace kc := keepCell c3 kc
          have la : v3.cell? ⟨v2.heap.size, 0, none⟩ = some (.int .i64 (n : Int)) := keepCell d3 (by go_simp)
          have qla := World.block_lt_of_cell? _ _ la
          have lb : v3.cell? ⟨v2.heap.size, 1, none⟩ = some (.int .i64 CA) := keepCell d3 (by go_simp)
          have lc : v3.cell? ⟨v2.heap.size, 2, none⟩ = some (.int .i64 CB) := keepCell d3 (by go_simp)
          replace hB := belowT hB c3
          clear c3 d3
          go_wp2_with fail
          refine (OF.out _ ?_).mono ?_
          · exact hT0.out.1.below (belowT hB (by go_grown))
          rintro e v4 ⟨rfl, d4⟩
          have c4 : Below v3.heap.size v3 v4 := Below.trans (by go_grown) (d4.mono (by simp; try omega))
          replace ka := keepCell c4 ka
          replace qka := World.block_lt_of_cell? _ _ ka
          replace kb := keepCell c4 kb
          replace kc := keepCell c4 kc
          replace la := keepCell c4 la
          replace qla := World.block_lt_of_cell? _ _ la
          replace lb := keepCell c4 lb
          replace lc := keepCell c4 lc
          replace hB := belowT hB c4
          clear c4 d4
          go_wp2_with fail
          refine (PA.out _).mono ?_
          rintro e v5 ⟨rfl, d5⟩
          have c5 : Below v4.heap.size v4 v5 := Below.trans (by go_grown) (d5.mono (by simp; try omega))
          replace ka := keepCell c5 ka
          replace qka := World.block_lt_of_cell? _ _ ka
          replace kb := keepCell c5 kb
          replace kc := keepCell c5 kc
          replace la := keepCell c5 la
          replace qla := World.block_lt_of_cell? _ _ la
          replace lb := keepCell c5 lb
          replace lc := keepCell c5 lc
          replace hB := belowT hB c5
          clear c5 d5
          go_wp2_with fail
          refine (PU.out _).mono ?_
          rintro e v6 ⟨rfl, d6⟩
          have c6 : Below v5.heap.size v5 v6 := Below.trans (by go_grown) (d6.mono (by simp; try omega))
          replace ka := keepCell c6 ka
          replace qka := World.block_lt_of_cell? _ _ ka
          replace kb := keepCell c6 kb
          replace kc := keepCell c6 kc
          replace la := keepCell c6 la
          replace qla := World.block_lt_of_cell? _ _ la
          replace lb := keepCell c6 lb
          replace lc := keepCell c6 lc
          replace hB := belowT hB c6
          clear c6 d6
          go_wp2_with fail
          refine (RS.out _).mono ?_
          rintro e v7 ⟨rfl, d7⟩
          have c7 : Below v6.heap.size v6 v7 := Below.trans (by go_grown) (d7.mono (by simp; try omega))
          replace ka := keepCell c7 ka
          replace qka := World.block_lt_of_cell? _ _ ka
          replace kb := keepCell c7 kb
          replace kc := keepCell c7 kc
          replace la := keepCell c7 la
          replace qla := World.block_lt_of_cell? _ _ la
          replace lb := keepCell c7 lb
          replace lc := keepCell c7 lc
          replace hB := belowT hB c7
          clear c7 d7
          go_wp2
          go_roundw
          case rel => exact ⟨2 + 1, by omega, rfl, hB⟩
          case measure => simp [intOf]
      · have C1 : Hid (∀ w, Tabs w → Calls Tryz.prog 14 #[.int .u64 X] w fun e w' => e = .returned (.tuple #[.agg #[.int .i64 0, .int .i64 0, .int .i64 0], .int .i64 5]) ∧ Below w.heap.size w w') := fun w _ => icell_no _ hX hw w
        have C2 : Hid (∀ w, Calls Tryz.prog 22 #[.int .u64 X] w fun e w' => e = .returned (.tuple #[.agg #[.int .i64 0, .int .i64 0, .int .i64 0], .int .i64 5]) ∧ Below w.heap.size w w') := rwcell_no _ hX hw
        have K1 : Hid (∀ w, Calls Tryz.prog 12 #[.int .u64 X] w fun e w' => e = .returned (.bool false) ∧ Below w.heap.size w w') := iok _ hX false (by simp [hw])
        have RS : Hid (∀ w, Calls Tryz.prog 10 #[.int .u64 X] w fun e w' => e = .returned (.int .i64 (-1)) ∧ Below w.heap.size w w') := ires_no _ hX hw
        have PA : Hid (∀ w, Calls Tryz.prog 11 #[.int .u64 X] w fun e w' => e = .returned (.tuple #[.int .u64 0, .int .i64 5]) ∧ Below w.heap.size w w') := iparent_no _ hX hw
        have PU : Hid (∀ w, Calls Tryz.prog 23 #[.int .u64 X] w fun e w' => e = .returned (.tuple #[.int .u64 0, .int .i64 5]) ∧ Below w.heap.size w w') := rup_no _ hX hw
        clear hw
        go_wp2_with fail
        refine (C1.out _ ?_).mono ?_
        · exact hT0.out.1.below (belowT hB (by go_grown))
        rintro e v1 ⟨rfl, d1⟩
        have c1 : Below wr.heap.size wr v1 := Below.trans (by go_grown) (d1.mono (by simp; try omega))
        replace hB := belowT hB c1
        clear c1 d1
        go_wp2_with fail
        refine (C2.out _).mono ?_
        rintro e v2 ⟨rfl, d2⟩
        have c2 : Below v1.heap.size v1 v2 := Below.trans (by go_grown) (d2.mono (by simp; try omega))
        have ka : v2.cell? ⟨v1.heap.size, 0, none⟩ = some (.int .i64 0) := keepCell d2 (by go_simp)
        have qka := World.block_lt_of_cell? _ _ ka
        have kb : v2.cell? ⟨v1.heap.size, 1, none⟩ = some (.int .i64 0) := keepCell d2 (by go_simp)
        have kc : v2.cell? ⟨v1.heap.size, 2, none⟩ = some (.int .i64 0) := keepCell d2 (by go_simp)
        replace hB := belowT hB c2
        clear c2 d2
        go_wp2_with fail
        refine (K1.out _).mono ?_
        rintro e v3 ⟨rfl, d3⟩
        have c3 : Below v2.heap.size v2 v3 := Below.trans (by go_grown) (d3.mono (by simp; try omega))
        replace ka := keepCell c3 ka
        replace qka := World.block_lt_of_cell? _ _ ka
        replace kb := keepCell c3 kb
        replace kc := keepCell c3 kc
        have la : v3.cell? ⟨v2.heap.size, 0, none⟩ = some (.int .i64 0) := keepCell d3 (by go_simp)
        have qla := World.block_lt_of_cell? _ _ la
        have lb : v3.cell? ⟨v2.heap.size, 1, none⟩ = some (.int .i64 0) := keepCell d3 (by go_simp)
        have lc : v3.cell? ⟨v2.heap.size, 2, none⟩ = some (.int .i64 0) := keepCell d3 (by go_simp)
        replace hB := belowT hB c3
        clear c3 d3
        go_wp2_with fail
        refine (PA.out _).mono ?_
        rintro e v4 ⟨rfl, d4⟩
        have c4 : Below v3.heap.size v3 v4 := Below.trans (by go_grown) (d4.mono (by simp; try omega))
        replace ka := keepCell c4 ka
        replace qka := World.block_lt_of_cell? _ _ ka
        replace kb := keepCell c4 kb
        replace kc := keepCell c4 kc
        replace la := keepCell c4 la
        replace qla := World.block_lt_of_cell? _ _ la
        replace lb := keepCell c4 lb
        replace lc := keepCell c4 lc
        replace hB := belowT hB c4
        clear c4 d4
        go_wp2_with fail
        refine (PU.out _).mono ?_
        rintro e v5 ⟨rfl, d5⟩
        have c5 : Below v4.heap.size v4 v5 := Below.trans (by go_grown) (d5.mono (by simp; try omega))
        replace ka := keepCell c5 ka
        replace qka := World.block_lt_of_cell? _ _ ka
        replace kb := keepCell c5 kb
        replace kc := keepCell c5 kc
        replace la := keepCell c5 la
        replace qla := World.block_lt_of_cell? _ _ la
        replace lb := keepCell c5 lb
        replace lc := keepCell c5 lc
        replace hB := belowT hB c5
        clear c5 d5
        go_wp2_with fail
        refine (RS.out _).mono ?_
        rintro e v6 ⟨rfl, d6⟩
        have c6 : Below v5.heap.size v5 v6 := Below.trans (by go_grown) (d6.mono (by simp; try omega))
        replace ka := keepCell c6 ka
        replace qka := World.block_lt_of_cell? _ _ ka
        replace kb := keepCell c6 kb
        replace kc := keepCell c6 kc
        replace la := keepCell c6 la
        replace qla := World.block_lt_of_cell? _ _ la
        replace lb := keepCell c6 lb
        replace lc := keepCell c6 lc
        replace hB := belowT hB c6
        clear c6 d6
        go_wp2
        go_roundw
        case rel => exact ⟨2 + 1, by omega, rfl, hB⟩
        case measure => simp [intOf]
    · skip
      go_wp2_with fail
      refine (iawake _ ?_).mono ?_
      · exact hT0.out.below (belowT hB (by go_grown))
      rintro e v1 ⟨rfl, d1⟩
      have c1 : Below wr.heap.size wr v1 := Below.trans (by go_grown) (d1.mono (by simp; try omega))
      replace hB := belowT hB c1
      clear c1 d1
      go_wp2
      go_ret
      exact ⟨rfl, hB⟩
end Go.Proofs.YtlipbdiijjfheaaGreatDoor
