/-
  The law CellFamily answers true for every three numbers, in whatever memory where the tables of Units and of digits hold what their texts lay: a cell is just one of its parent's seven children, which are unlike, and each of whose parent is it; its digit says which.
-/
import Derived.Test.YtnnbdlnginkldaaDoorCSome
import Derived.Test.YtnnbdlnginkldaaDoorCAwake
namespace Go.Proofs.YtnnbdlnginkldaaDoor
open Go.RowKit

/-- Which child it is. -/
theorem child_one {P Q A B : Int} {d k : Nat} (hk : k ≤ 6) (hd : d ≤ 6) (hA : chA (d : Int) P Q = A) (hB : chB (d : Int) P Q = B) (h1 : chA (k : Int) P Q = A) (h2 : chB (k : Int) P Q = B) : k = d := by
  have e1 := (par_one (d := (k : Int)) (P := P) (Q := Q) (by omega) (by omega)).1
  have e2 := (par_one (d := (d : Int)) (P := P) (Q := Q) (by omega) (by omega)).1
  rw [h1, h2] at e1
  rw [hA, hB] at e2
  omega

set_option maxHeartbeats 16000000 in
set_option maxRecDepth 20000 in
theorem cellFamily_top (x y r s : Int) (SO : ∀ w, Calls Tryd.prog 9 #[.int .i64 x, .int .i64 y, .int .i64 r] w fun e w' => TellsS s e ∧ Below w.heap.size w w') (hs0 : 0 ≤ s) (hs : decide (0 < s) = false) (hs' : (s == 12) = false) (hs2 : s < 12) (w : World) (hT : Tabs w) :
    Calls Tryd.prog 8 #[.int .i64 x, .int .i64 y, .int .i64 r] w fun e w' => e = .returned (.bool true) ∧ Below w.heap.size w w' := by
  replace SO : Hid _ := SO
  have hT0 : Hid (Tabs w) := hT
  clear hT
  go_enter Tryd.func8, Tryd.ntmps8
  go_wp2_with fail
  refine (SO.out _).mono ?_
  rintro e w1 ⟨⟨A, B, rfl, hO⟩, d1⟩
  have c1 : Below w.heap.size w w1 := Below.trans (by go_grown) (d1.mono (by simp; try omega))
  have hB := c1
  clear c1 d1
  have CC : Hid _ := fun w hT => ckids_yes s A B hO (by omega) w hT
  have CP : Hid (∀ k : Nat, k < 7 → ∀ w, Tabs w → Calls Tryd.prog 18 #[.agg #[.int .i64 (s + 1), .int .i64 (chA (k : Int) A B), .int .i64 (chB (k : Int) A B)]] w fun e w' => e = .returned (.tuple #[.agg #[.int .i64 s, .int .i64 A, .int .i64 B], .int .i64 0]) ∧ Below w.heap.size w w') := fun k hk w hT => by
    have := cparent_yes (s + 1) _ _ (ok4_child (d := (k : Int)) hO (by omega) (by omega) (by omega)) (by omega) w hT
    have e := par_one (d := (k : Int)) (P := A) (Q := B) (by omega) (by omega)
    rwa [e.2.1, e.2.2, show s + 1 - 1 = s by omega] at this
  have CD : Hid (∀ k : Nat, k < 7 → ∀ w, Tabs w → Calls Tryd.prog 15 #[.agg #[.int .i64 (s + 1), .int .i64 (chA (k : Int) A B), .int .i64 (chB (k : Int) A B)]] w fun e w' => e = .returned (.int .i64 (k : Int)) ∧ Below w.heap.size w w') := fun k hk w hT => by
    have := cdigit_yes (s + 1) _ _ (ok4_child (d := (k : Int)) hO (by omega) (by omega) (by omega)) (by omega) w hT
    have e := par_one (d := (k : Int)) (P := A) (Q := B) (by omega) (by omega)
    rwa [e.1] at this
  have CO : Hid (∀ k : Nat, k < 7 → ∀ w, Tabs w → Calls Tryd.prog 13 #[.agg #[.int .i64 (s + 1), .int .i64 (chA (k : Int) A B), .int .i64 (chB (k : Int) A B)]] w fun e w' => e = .returned (.bool true) ∧ Below w.heap.size w w') := fun k hk w hT => cok_yes (s + 1) _ _ (ok4_child (d := (k : Int)) hO (by omega) (by omega) (by omega)) w hT
  clear hO SO
  have k0 : (w1.alloc (.cells #[.int .i64 s, .int .i64 A, .int .i64 B] 25)).cell? ⟨w1.heap.size, 0, none⟩ = some (.int .i64 s) := by go_simp
  have k1 : (w1.alloc (.cells #[.int .i64 s, .int .i64 A, .int .i64 B] 25)).cell? ⟨w1.heap.size, 1, none⟩ = some (.int .i64 A) := by go_simp
  have k2 : (w1.alloc (.cells #[.int .i64 s, .int .i64 A, .int .i64 B] 25)).cell? ⟨w1.heap.size, 2, none⟩ = some (.int .i64 B) := by go_simp
  replace hB := belowT hB (allocB w1 (.cells #[.int .i64 s, .int .i64 A, .int .i64 B] 25))
  go_wp2_with fail
  generalize (w1.alloc (.cells #[.int .i64 s, .int .i64 A, .int .i64 B] 25)) = wA at *
  have qk0 := World.block_lt_of_cell? _ _ k0
  go_wp2_with fail
  refine (CC.out _ ?_).mono ?_
  · exact hT0.out.below (belowT hB (by go_grown))
  rintro e u1 ⟨⟨Bk2, hk2, rfl, hR2⟩, d1⟩
  have c1 : Below wA.heap.size wA u1 := Below.trans (by go_grown) (d1.mono (by simp; try omega))
  replace k0 := keepCell c1 k0
  replace qk0 := World.block_lt_of_cell? _ _ k0
  replace k1 := keepCell c1 k1
  replace k2 := keepCell c1 k2
  replace hB := belowT hB c1
  clear c1 d1
  replace hR2 : Hid (KidRel Bk2 (kidG s A B) 7 u1) := hR2
  go_wp2_with fail
  go_loopw [16] (fun v16 wr => ∃ k : Nat, k ≤ 7 ∧ v16 = .int .i64 (k : Int) ∧ Below u1.heap.size u1 wr) (fun v16 _ => 7 - (intOf v16).toNat)
  case atStart => exact ⟨0, by omega, rfl, Below.refl _ _⟩
  case round =>
    obtain ⟨k, hk, rfl, hX⟩ := hrel
    by_cases hlt : k < 7
    · have d0 : wr.cell? ⟨Bk2, k * 3, none⟩ = some (.int .i64 (s + 1)) := by
        have := keepCell hX (hR2.out (k * 3) (by omega)).1
        rwa [kidAt_all _ _ (by omega), kidG_0] at this
      have d1' : wr.cell? ⟨Bk2, k * 3 + 1, none⟩ = some (.int .i64 (chA (k : Int) A B)) := by
        have := keepCell hX (hR2.out (k * 3 + 1) (by omega)).1
        rwa [kidAt_all _ _ (by omega), kidG_1] at this
      have d2' : wr.cell? ⟨Bk2, k * 3 + 2, none⟩ = some (.int .i64 (chB (k : Int) A B)) := by
        have := keepCell hX (hR2.out (k * 3 + 2) (by omega)).1
        rwa [kidAt_all _ _ (by omega), kidG_2] at this
      have y0 := keepCell hX k0
      have y1 := keepCell hX k1
      have y2 := keepCell hX k2
      have hTr : Hid (Tabs wr) := (hT0.out.below hB).below hX
      have P1 : Hid _ := CP.out k hlt
      have P2 : Hid _ := CD.out k hlt
      have P3 : Hid _ := CO.out k hlt
      clear CP CD CO CC hR2 k0 k1 k2
      generalize chA (k : Int) A B = U at *
      generalize chB (k : Int) A B = V at *
      have hB0 := hB
      clear hB
      have hB : Below wr.heap.size wr wr := Below.refl _ _
      have qd0 := World.block_lt_of_cell? _ _ d0
      have qy0 := World.block_lt_of_cell? _ _ y0
      go_wp2_with fail
      refine (P1.out _ ?_).mono ?_
      · exact hTr.out.below hB
      rintro e x1 ⟨rfl, d1⟩
      have c1 : Below wr.heap.size wr x1 := Below.trans (by go_grown) (d1.mono (by simp; try omega))
      replace d0 := keepCell c1 d0
      replace qd0 := World.block_lt_of_cell? _ _ d0
      replace d1' := keepCell c1 d1'
      replace d2' := keepCell c1 d2'
      replace y0 := keepCell c1 y0
      replace qy0 := World.block_lt_of_cell? _ _ y0
      replace y1 := keepCell c1 y1
      replace y2 := keepCell c1 y2
      replace hB := belowT hB c1
      clear c1 d1
      go_wp2_with fail
      refine (P2.out _ ?_).mono ?_
      · exact hTr.out.below (belowT hB (by go_grown))
      rintro e x2 ⟨rfl, d2⟩
      have c2 : Below x1.heap.size x1 x2 := Below.trans (by go_grown) (d2.mono (by simp; try omega))
      replace d0 := keepCell c2 d0
      replace qd0 := World.block_lt_of_cell? _ _ d0
      replace d1' := keepCell c2 d1'
      replace d2' := keepCell c2 d2'
      replace y0 := keepCell c2 y0
      replace qy0 := World.block_lt_of_cell? _ _ y0
      replace y1 := keepCell c2 y1
      replace y2 := keepCell c2 y2
      have q0 : x2.cell? ⟨x1.heap.size, 0, none⟩ = some (.int .i64 s) := keepCell d2 (by go_simp)
      have qq0 := World.block_lt_of_cell? _ _ q0
      have q1 : x2.cell? ⟨x1.heap.size, 1, none⟩ = some (.int .i64 A) := keepCell d2 (by go_simp)
      have q2 : x2.cell? ⟨x1.heap.size, 2, none⟩ = some (.int .i64 B) := keepCell d2 (by go_simp)
      replace hB := belowT hB c2
      clear c2 d2
      go_wp2_with fail
      refine (P3.out _ ?_).mono ?_
      · exact hTr.out.below (belowT hB (by go_grown))
      rintro e x3 ⟨rfl, d3⟩
      have c3 : Below x2.heap.size x2 x3 := Below.trans (by go_grown) (d3.mono (by simp; try omega))
      replace d0 := keepCell c3 d0
      replace qd0 := World.block_lt_of_cell? _ _ d0
      replace d1' := keepCell c3 d1'
      replace d2' := keepCell c3 d2'
      replace y0 := keepCell c3 y0
      replace qy0 := World.block_lt_of_cell? _ _ y0
      replace y1 := keepCell c3 y1
      replace y2 := keepCell c3 y2
      replace q0 := keepCell c3 q0
      replace qq0 := World.block_lt_of_cell? _ _ q0
      replace q1 := keepCell c3 q1
      replace q2 := keepCell c3 q2
      replace hB := belowT hB c3
      clear c3 d3
      have hX1 := belowT hX hB
      clear hX hB d0 d1' d2' y0 y1 y2 q0 q1 q2
      go_wp2
      go_roundw
      case rel => exact ⟨k + 1, by omega, by go_num, hX1⟩
      case measure => simp [intOf]; omega
    · obtain rfl : k = 7 := by omega
      replace hB := belowT hB hX
      clear hX hR2 CP CD CO CC k0 k1 k2
      go_wp2_with fail
      refine (cawake _ ?_).mono ?_
      · exact hT0.out.below hB
      rintro e z1 ⟨rfl, d1⟩
      have c1 : Below wr.heap.size wr z1 := Below.trans (by go_grown) (d1.mono (by simp; try omega))
      replace hB := belowT hB c1
      clear c1 d1
      go_wp2
      go_ret
      exact ⟨rfl, hB⟩

set_option maxHeartbeats 16000000 in
set_option maxRecDepth 20000 in
theorem cellFamily_fine (x y r s : Int) (SO : ∀ w, Calls Tryd.prog 9 #[.int .i64 x, .int .i64 y, .int .i64 r] w fun e w' => TellsS s e ∧ Below w.heap.size w w') (hs : 0 < s) (hs' : (s == 12) = true) (hs2 : s ≤ 12) (w : World) (hT : Tabs w) :
    Calls Tryd.prog 8 #[.int .i64 x, .int .i64 y, .int .i64 r] w fun e w' => e = .returned (.bool true) ∧ Below w.heap.size w w' := by
  replace SO : Hid _ := SO
  have hT0 : Hid (Tabs w) := hT
  clear hT
  go_enter Tryd.func8, Tryd.ntmps8
  go_wp2_with fail
  refine (SO.out _).mono ?_
  rintro e w1 ⟨⟨A, B, rfl, hO⟩, d1⟩
  have c1 : Below w.heap.size w w1 := Below.trans (by go_grown) (d1.mono (by simp; try omega))
  have hB := c1
  clear c1 d1
  obtain ⟨d, hdd⟩ := Int.eq_ofNat_of_zero_le (dig_box A B).1
  have hd : d ≤ 6 := by have := (dig_box A B).2; omega
  have hdA : Hid (chA (d : Int) (parA A B) (parB A B) = A) := by show chA _ _ _ = A; rw [show (d : Int) = dig A B from hdd.symm]; exact (par_back A B).1
  have hdB : Hid (chB (d : Int) (parA A B) (parB A B) = B) := by show chB _ _ _ = B; rw [show (d : Int) = dig A B from hdd.symm]; exact (par_back A B).2
  have PA : Hid _ := cparent_yes s A B hO (by omega)
  have CH : Hid _ := fun w hT => ckids_yes (s - 1) _ _ (ok4_parent hO (by omega)) (by omega) w hT
  have DI : Hid (∀ w, Tabs w → Calls Tryd.prog 15 #[.agg #[.int .i64 s, .int .i64 A, .int .i64 B]] w fun e w' => e = .returned (.int .i64 (d : Int)) ∧ Below w.heap.size w w') := fun w hT => by
    have := cdigit_yes s A B hO (by omega) w hT
    rwa [hdd] at this
  clear hdd
  clear hO SO
  generalize parA A B = P at *
  generalize parB A B = Q at *
  go_wp2_with fail
  refine (PA.out _ ?_).mono ?_
  · exact hT0.out.below (belowT hB (by go_grown))
  rintro e w2 ⟨rfl, d2⟩
  have c2 : Below w1.heap.size w1 w2 := Below.trans (by go_grown) (d2.mono (by simp; try omega))
  have k0 : w2.cell? ⟨w1.heap.size, 0, none⟩ = some (.int .i64 s) := keepCell d2 (by go_simp)
  have qk0 := World.block_lt_of_cell? _ _ k0
  have k1 : w2.cell? ⟨w1.heap.size, 1, none⟩ = some (.int .i64 A) := keepCell d2 (by go_simp)
  have k2 : w2.cell? ⟨w1.heap.size, 2, none⟩ = some (.int .i64 B) := keepCell d2 (by go_simp)
  replace hB := belowT hB c2
  clear c2 d2
  go_wp2_with fail
  refine (CH.out _ ?_).mono ?_
  · exact hT0.out.below (belowT hB (by go_grown))
  rintro e w3 ⟨⟨Bk, hk1, rfl, hR1⟩, d3⟩
  have c3 : Below w2.heap.size w2 w3 := Below.trans (by go_grown) (d3.mono (by simp; try omega))
  replace k0 := keepCell c3 k0
  replace qk0 := World.block_lt_of_cell? _ _ k0
  replace k1 := keepCell c3 k1
  replace k2 := keepCell c3 k2
  replace hB := belowT hB c3
  clear c3 d3
  replace hR1 : Hid (KidRel Bk (kidG (s - 1) P Q) 7 w3) := hR1
  go_wp2_with fail
  go_loopw [12, 13] (fun v12 v13 wr => ∃ (k : Nat) (n : Int), k ≤ 7 ∧ v13 = .int .i64 (k : Int) ∧ v12 = .int .i64 n ∧ (k ≤ d ∧ n = 0 ∨ d < k ∧ n = 1) ∧ Below w3.heap.size w3 wr) (fun _ v13 _ => 7 - (intOf v13).toNat)
  case atStart => exact ⟨0, 0, by omega, rfl, rfl, by omega, Below.refl _ _⟩
  case round =>
    obtain ⟨k, n, hk, rfl, rfl, hn, hX⟩ := hrel
    by_cases hlt : k < 7
    · have d0 : wr.cell? ⟨Bk, k * 3, none⟩ = some (.int .i64 s) := by
        have := keepCell hX (hR1.out (k * 3) (by omega)).1
        rw [kidAt_all _ _ (by omega), kidG_0, show s - 1 + 1 = s by omega] at this
        exact this
      have d1 : wr.cell? ⟨Bk, k * 3 + 1, none⟩ = some (.int .i64 (chA (k : Int) P Q)) := by
        have := keepCell hX (hR1.out (k * 3 + 1) (by omega)).1
        rwa [kidAt_all _ _ (by omega), kidG_1] at this
      have d2 : wr.cell? ⟨Bk, k * 3 + 2, none⟩ = some (.int .i64 (chB (k : Int) P Q)) := by
        have := keepCell hX (hR1.out (k * 3 + 2) (by omega)).1
        rwa [kidAt_all _ _ (by omega), kidG_2] at this
      have y0 := keepCell hX k0
      have y1 := keepCell hX k1
      have y2 := keepCell hX k2
      have hTr : Hid (Tabs wr) := (hT0.out.below hB).below hX
      by_cases hkd : k = d
      · subst hkd
        rw [hdA.out] at d1
        rw [hdB.out] at d2
        have hn0 : n = 0 := by omega
        subst hn0
        clear hR1 PA CH k0 k1 k2
        go_wp2_with fail
        go_quiet (fail)
        go_wp2_with fail
        refine (DI.out _ (hTr.out.below (by first | exact belowN (Below.refl _ _) _ | go_grown))).mono ?_
        rintro e v1 ⟨rfl, hb⟩
        have hX1 : Below w3.heap.size w3 v1 := belowT (belowN hX _) hb
        clear hb d0 d1 d2 y0 y1 y2 hX hTr
        go_wp2
        go_roundw
        case rel => exact ⟨k + 1, 1, by omega, by go_num, by go_num, by omega, hX1⟩
        case measure => simp [intOf]; omega
      · have hne : ¬ (chA (k : Int) P Q = A ∧ chB (k : Int) P Q = B) := fun h => hkd (child_one (by omega) hd hdA.out hdB.out h.1 h.2)
        generalize chA (k : Int) P Q = U at *
        generalize chB (k : Int) P Q = V at *
        clear hR1 PA CH k0 k1 k2 hTr
        by_cases hU : U = A
        · subst hU
          have hV : (V == B) = false := by simp; exact fun e => hne ⟨rfl, e⟩
          clear hne
          go_wp2_with fail
          go_quiet (fail)
          go_wp2
          go_roundw
          case rel => exact ⟨k + 1, n, by omega, by go_num, rfl, by omega, belowN hX _⟩
          case measure => simp [intOf]; omega
        · have hU' : (U == A) = false := by simpa using hU
          clear hne hU
          go_wp2_with fail
          go_quiet (fail)
          go_wp2
          go_roundw
          case rel => exact ⟨k + 1, n, by omega, by go_num, rfl, by omega, belowN hX _⟩
          case measure => simp [intOf]; omega
    · obtain rfl : k = 7 := by omega
      obtain rfl : n = 1 := by omega
      replace k0 := keepCell hX k0
      replace k1 := keepCell hX k1
      replace k2 := keepCell hX k2
      replace hB := belowT hB hX
      clear hX hR1 PA CH DI hdA hdB
      have qk0 := World.block_lt_of_cell? _ _ k0
      go_wp2_with fail
      refine (cawake _ ?_).mono ?_
      · exact hT0.out.below hB
      rintro e u1 ⟨rfl, d1⟩
      have c1 : Below wr.heap.size wr u1 := Below.trans (by go_grown) (d1.mono (by simp; try omega))
      replace k0 := keepCell c1 k0
      replace qk0 := World.block_lt_of_cell? _ _ k0
      replace k1 := keepCell c1 k1
      replace k2 := keepCell c1 k2
      replace hB := belowT hB c1
      clear c1 d1
      go_wp2
      go_ret
      exact ⟨rfl, hB⟩

set_option maxHeartbeats 16000000 in
set_option maxRecDepth 20000 in
theorem cellFamily_mid (x y r s : Int) (SO : ∀ w, Calls Tryd.prog 9 #[.int .i64 x, .int .i64 y, .int .i64 r] w fun e w' => TellsS s e ∧ Below w.heap.size w w') (hs : 0 < s) (hs' : (s == 12) = false) (hs2 : s < 12) (w : World) (hT : Tabs w) :
    Calls Tryd.prog 8 #[.int .i64 x, .int .i64 y, .int .i64 r] w fun e w' => e = .returned (.bool true) ∧ Below w.heap.size w w' := by
  replace SO : Hid _ := SO
  have hT0 : Hid (Tabs w) := hT
  clear hT
  go_enter Tryd.func8, Tryd.ntmps8
  go_wp2_with fail
  refine (SO.out _).mono ?_
  rintro e w1 ⟨⟨A, B, rfl, hO⟩, d1⟩
  have c1 : Below w.heap.size w w1 := Below.trans (by go_grown) (d1.mono (by simp; try omega))
  have hB := c1
  clear c1 d1
  obtain ⟨d, hdd⟩ := Int.eq_ofNat_of_zero_le (dig_box A B).1
  have hd : d ≤ 6 := by have := (dig_box A B).2; omega
  have hdA : Hid (chA (d : Int) (parA A B) (parB A B) = A) := by show chA _ _ _ = A; rw [show (d : Int) = dig A B from hdd.symm]; exact (par_back A B).1
  have hdB : Hid (chB (d : Int) (parA A B) (parB A B) = B) := by show chB _ _ _ = B; rw [show (d : Int) = dig A B from hdd.symm]; exact (par_back A B).2
  have PA : Hid _ := cparent_yes s A B hO (by omega)
  have CH : Hid _ := fun w hT => ckids_yes (s - 1) _ _ (ok4_parent hO (by omega)) (by omega) w hT
  have DI : Hid (∀ w, Tabs w → Calls Tryd.prog 15 #[.agg #[.int .i64 s, .int .i64 A, .int .i64 B]] w fun e w' => e = .returned (.int .i64 (d : Int)) ∧ Below w.heap.size w w') := fun w hT => by
    have := cdigit_yes s A B hO (by omega) w hT
    rwa [hdd] at this
  clear hdd
  have CC : Hid _ := fun w hT => ckids_yes s A B hO (by omega) w hT
  have CP : Hid (∀ k : Nat, k < 7 → ∀ w, Tabs w → Calls Tryd.prog 18 #[.agg #[.int .i64 (s + 1), .int .i64 (chA (k : Int) A B), .int .i64 (chB (k : Int) A B)]] w fun e w' => e = .returned (.tuple #[.agg #[.int .i64 s, .int .i64 A, .int .i64 B], .int .i64 0]) ∧ Below w.heap.size w w') := fun k hk w hT => by
    have := cparent_yes (s + 1) _ _ (ok4_child (d := (k : Int)) hO (by omega) (by omega) (by omega)) (by omega) w hT
    have e := par_one (d := (k : Int)) (P := A) (Q := B) (by omega) (by omega)
    rwa [e.2.1, e.2.2, show s + 1 - 1 = s by omega] at this
  have CD : Hid (∀ k : Nat, k < 7 → ∀ w, Tabs w → Calls Tryd.prog 15 #[.agg #[.int .i64 (s + 1), .int .i64 (chA (k : Int) A B), .int .i64 (chB (k : Int) A B)]] w fun e w' => e = .returned (.int .i64 (k : Int)) ∧ Below w.heap.size w w') := fun k hk w hT => by
    have := cdigit_yes (s + 1) _ _ (ok4_child (d := (k : Int)) hO (by omega) (by omega) (by omega)) (by omega) w hT
    have e := par_one (d := (k : Int)) (P := A) (Q := B) (by omega) (by omega)
    rwa [e.1] at this
  have CO : Hid (∀ k : Nat, k < 7 → ∀ w, Tabs w → Calls Tryd.prog 13 #[.agg #[.int .i64 (s + 1), .int .i64 (chA (k : Int) A B), .int .i64 (chB (k : Int) A B)]] w fun e w' => e = .returned (.bool true) ∧ Below w.heap.size w w') := fun k hk w hT => cok_yes (s + 1) _ _ (ok4_child (d := (k : Int)) hO (by omega) (by omega) (by omega)) w hT
  clear hO SO
  generalize parA A B = P at *
  generalize parB A B = Q at *
  go_wp2_with fail
  refine (PA.out _ ?_).mono ?_
  · exact hT0.out.below (belowT hB (by go_grown))
  rintro e w2 ⟨rfl, d2⟩
  have c2 : Below w1.heap.size w1 w2 := Below.trans (by go_grown) (d2.mono (by simp; try omega))
  have k0 : w2.cell? ⟨w1.heap.size, 0, none⟩ = some (.int .i64 s) := keepCell d2 (by go_simp)
  have qk0 := World.block_lt_of_cell? _ _ k0
  have k1 : w2.cell? ⟨w1.heap.size, 1, none⟩ = some (.int .i64 A) := keepCell d2 (by go_simp)
  have k2 : w2.cell? ⟨w1.heap.size, 2, none⟩ = some (.int .i64 B) := keepCell d2 (by go_simp)
  replace hB := belowT hB c2
  clear c2 d2
  go_wp2_with fail
  refine (CH.out _ ?_).mono ?_
  · exact hT0.out.below (belowT hB (by go_grown))
  rintro e w3 ⟨⟨Bk, hk1, rfl, hR1⟩, d3⟩
  have c3 : Below w2.heap.size w2 w3 := Below.trans (by go_grown) (d3.mono (by simp; try omega))
  replace k0 := keepCell c3 k0
  replace qk0 := World.block_lt_of_cell? _ _ k0
  replace k1 := keepCell c3 k1
  replace k2 := keepCell c3 k2
  replace hB := belowT hB c3
  clear c3 d3
  replace hR1 : Hid (KidRel Bk (kidG (s - 1) P Q) 7 w3) := hR1
  go_wp2_with fail
  go_loopw [12, 13] (fun v12 v13 wr => ∃ (k : Nat) (n : Int), k ≤ 7 ∧ v13 = .int .i64 (k : Int) ∧ v12 = .int .i64 n ∧ (k ≤ d ∧ n = 0 ∨ d < k ∧ n = 1) ∧ Below w3.heap.size w3 wr) (fun _ v13 _ => 7 - (intOf v13).toNat)
  case atStart => exact ⟨0, 0, by omega, rfl, rfl, by omega, Below.refl _ _⟩
  case round =>
    obtain ⟨k, n, hk, rfl, rfl, hn, hX⟩ := hrel
    by_cases hlt : k < 7
    · have d0 : wr.cell? ⟨Bk, k * 3, none⟩ = some (.int .i64 s) := by
        have := keepCell hX (hR1.out (k * 3) (by omega)).1
        rw [kidAt_all _ _ (by omega), kidG_0, show s - 1 + 1 = s by omega] at this
        exact this
      have d1 : wr.cell? ⟨Bk, k * 3 + 1, none⟩ = some (.int .i64 (chA (k : Int) P Q)) := by
        have := keepCell hX (hR1.out (k * 3 + 1) (by omega)).1
        rwa [kidAt_all _ _ (by omega), kidG_1] at this
      have d2 : wr.cell? ⟨Bk, k * 3 + 2, none⟩ = some (.int .i64 (chB (k : Int) P Q)) := by
        have := keepCell hX (hR1.out (k * 3 + 2) (by omega)).1
        rwa [kidAt_all _ _ (by omega), kidG_2] at this
      have y0 := keepCell hX k0
      have y1 := keepCell hX k1
      have y2 := keepCell hX k2
      have hTr : Hid (Tabs wr) := (hT0.out.below hB).below hX
      by_cases hkd : k = d
      · subst hkd
        rw [hdA.out] at d1
        rw [hdB.out] at d2
        have hn0 : n = 0 := by omega
        subst hn0
        clear hR1 PA CH k0 k1 k2
        go_wp2_with fail
        go_quiet (fail)
        go_wp2_with fail
        refine (DI.out _ (hTr.out.below (by first | exact belowN (Below.refl _ _) _ | go_grown))).mono ?_
        rintro e v1 ⟨rfl, hb⟩
        have hX1 : Below w3.heap.size w3 v1 := belowT (belowN hX _) hb
        clear hb d0 d1 d2 y0 y1 y2 hX hTr
        go_wp2
        go_roundw
        case rel => exact ⟨k + 1, 1, by omega, by go_num, by go_num, by omega, hX1⟩
        case measure => simp [intOf]; omega
      · have hne : ¬ (chA (k : Int) P Q = A ∧ chB (k : Int) P Q = B) := fun h => hkd (child_one (by omega) hd hdA.out hdB.out h.1 h.2)
        generalize chA (k : Int) P Q = U at *
        generalize chB (k : Int) P Q = V at *
        clear hR1 PA CH k0 k1 k2 hTr
        by_cases hU : U = A
        · subst hU
          have hV : (V == B) = false := by simp; exact fun e => hne ⟨rfl, e⟩
          clear hne
          go_wp2_with fail
          go_quiet (fail)
          go_wp2
          go_roundw
          case rel => exact ⟨k + 1, n, by omega, by go_num, rfl, by omega, belowN hX _⟩
          case measure => simp [intOf]; omega
        · have hU' : (U == A) = false := by simpa using hU
          clear hne hU
          go_wp2_with fail
          go_quiet (fail)
          go_wp2
          go_roundw
          case rel => exact ⟨k + 1, n, by omega, by go_num, rfl, by omega, belowN hX _⟩
          case measure => simp [intOf]; omega
    · obtain rfl : k = 7 := by omega
      obtain rfl : n = 1 := by omega
      replace k0 := keepCell hX k0
      replace k1 := keepCell hX k1
      replace k2 := keepCell hX k2
      replace hB := belowT hB hX
      clear hX hR1 PA CH DI hdA hdB
      have qk0 := World.block_lt_of_cell? _ _ k0
      go_wp2_with fail
      refine (CC.out _ ?_).mono ?_
      · exact hT0.out.below (belowT hB (by go_grown))
      rintro e u1 ⟨⟨Bk2, hk2, rfl, hR2⟩, d1⟩
      have c1 : Below wr.heap.size wr u1 := Below.trans (by go_grown) (d1.mono (by simp; try omega))
      replace k0 := keepCell c1 k0
      replace qk0 := World.block_lt_of_cell? _ _ k0
      replace k1 := keepCell c1 k1
      replace k2 := keepCell c1 k2
      replace hB := belowT hB c1
      clear c1 d1
      replace hR2 : Hid (KidRel Bk2 (kidG s A B) 7 u1) := hR2
      go_wp2_with fail
      go_loopw [16] (fun v16 wr => ∃ k : Nat, k ≤ 7 ∧ v16 = .int .i64 (k : Int) ∧ Below u1.heap.size u1 wr) (fun v16 _ => 7 - (intOf v16).toNat)
      case atStart => exact ⟨0, by omega, rfl, Below.refl _ _⟩
      case round =>
        obtain ⟨k, hk, rfl, hX⟩ := hrel
        by_cases hlt : k < 7
        · have d0 : wr.cell? ⟨Bk2, k * 3, none⟩ = some (.int .i64 (s + 1)) := by
            have := keepCell hX (hR2.out (k * 3) (by omega)).1
            rwa [kidAt_all _ _ (by omega), kidG_0] at this
          have d1' : wr.cell? ⟨Bk2, k * 3 + 1, none⟩ = some (.int .i64 (chA (k : Int) A B)) := by
            have := keepCell hX (hR2.out (k * 3 + 1) (by omega)).1
            rwa [kidAt_all _ _ (by omega), kidG_1] at this
          have d2' : wr.cell? ⟨Bk2, k * 3 + 2, none⟩ = some (.int .i64 (chB (k : Int) A B)) := by
            have := keepCell hX (hR2.out (k * 3 + 2) (by omega)).1
            rwa [kidAt_all _ _ (by omega), kidG_2] at this
          have y0 := keepCell hX k0
          have y1 := keepCell hX k1
          have y2 := keepCell hX k2
          have hTr : Hid (Tabs wr) := (hT0.out.below hB).below hX
          have P1 : Hid _ := CP.out k hlt
          have P2 : Hid _ := CD.out k hlt
          have P3 : Hid _ := CO.out k hlt
          clear CP CD CO CC hR2 k0 k1 k2
          generalize chA (k : Int) A B = U at *
          generalize chB (k : Int) A B = V at *
          have hB0 := hB
          clear hB
          have hB : Below wr.heap.size wr wr := Below.refl _ _
          have qd0 := World.block_lt_of_cell? _ _ d0
          have qy0 := World.block_lt_of_cell? _ _ y0
          go_wp2_with fail
          refine (P1.out _ ?_).mono ?_
          · exact hTr.out.below hB
          rintro e x1 ⟨rfl, d1⟩
          have c1 : Below wr.heap.size wr x1 := Below.trans (by go_grown) (d1.mono (by simp; try omega))
          replace d0 := keepCell c1 d0
          replace qd0 := World.block_lt_of_cell? _ _ d0
          replace d1' := keepCell c1 d1'
          replace d2' := keepCell c1 d2'
          replace y0 := keepCell c1 y0
          replace qy0 := World.block_lt_of_cell? _ _ y0
          replace y1 := keepCell c1 y1
          replace y2 := keepCell c1 y2
          replace hB := belowT hB c1
          clear c1 d1
          go_wp2_with fail
          refine (P2.out _ ?_).mono ?_
          · exact hTr.out.below (belowT hB (by go_grown))
          rintro e x2 ⟨rfl, d2⟩
          have c2 : Below x1.heap.size x1 x2 := Below.trans (by go_grown) (d2.mono (by simp; try omega))
          replace d0 := keepCell c2 d0
          replace qd0 := World.block_lt_of_cell? _ _ d0
          replace d1' := keepCell c2 d1'
          replace d2' := keepCell c2 d2'
          replace y0 := keepCell c2 y0
          replace qy0 := World.block_lt_of_cell? _ _ y0
          replace y1 := keepCell c2 y1
          replace y2 := keepCell c2 y2
          have q0 : x2.cell? ⟨x1.heap.size, 0, none⟩ = some (.int .i64 s) := keepCell d2 (by go_simp)
          have qq0 := World.block_lt_of_cell? _ _ q0
          have q1 : x2.cell? ⟨x1.heap.size, 1, none⟩ = some (.int .i64 A) := keepCell d2 (by go_simp)
          have q2 : x2.cell? ⟨x1.heap.size, 2, none⟩ = some (.int .i64 B) := keepCell d2 (by go_simp)
          replace hB := belowT hB c2
          clear c2 d2
          go_wp2_with fail
          refine (P3.out _ ?_).mono ?_
          · exact hTr.out.below (belowT hB (by go_grown))
          rintro e x3 ⟨rfl, d3⟩
          have c3 : Below x2.heap.size x2 x3 := Below.trans (by go_grown) (d3.mono (by simp; try omega))
          replace d0 := keepCell c3 d0
          replace qd0 := World.block_lt_of_cell? _ _ d0
          replace d1' := keepCell c3 d1'
          replace d2' := keepCell c3 d2'
          replace y0 := keepCell c3 y0
          replace qy0 := World.block_lt_of_cell? _ _ y0
          replace y1 := keepCell c3 y1
          replace y2 := keepCell c3 y2
          replace q0 := keepCell c3 q0
          replace qq0 := World.block_lt_of_cell? _ _ q0
          replace q1 := keepCell c3 q1
          replace q2 := keepCell c3 q2
          replace hB := belowT hB c3
          clear c3 d3
          have hX1 := belowT hX hB
          clear hX hB d0 d1' d2' y0 y1 y2 q0 q1 q2
          go_wp2
          go_roundw
          case rel => exact ⟨k + 1, by omega, by go_num, hX1⟩
          case measure => simp [intOf]; omega
        · obtain rfl : k = 7 := by omega
          replace hB := belowT hB hX
          clear hX hR2 CP CD CO CC k0 k1 k2
          go_wp2_with fail
          refine (cawake _ ?_).mono ?_
          · exact hT0.out.below hB
          rintro e z1 ⟨rfl, d1⟩
          have c1 : Below wr.heap.size wr z1 := Below.trans (by go_grown) (d1.mono (by simp; try omega))
          replace hB := belowT hB c1
          clear c1 d1
          go_wp2
          go_ret
          exact ⟨rfl, hB⟩

theorem cellFamily_walk (x y r : Int) (w : World) (hT : Tabs w) :
    Calls Tryd.prog 8 #[.int .i64 x, .int .i64 y, .int .i64 r] w fun e w' => e = .returned (.bool true) ∧ Below w.heap.size w w' := by
  obtain ⟨s, s0, s12, SO⟩ := csome_any x y r
  by_cases h0 : 0 < s
  · by_cases h1 : s = 12
    · exact cellFamily_fine x y r s SO h0 (by simpa using h1) s12 w hT
    · exact cellFamily_mid x y r s SO h0 (by simpa using h1) (by omega) w hT
  · exact cellFamily_top x y r s SO s0 (df h0) (by simp; omega) (by omega) w hT
end Go.Proofs.YtnnbdlnginkldaaDoor
