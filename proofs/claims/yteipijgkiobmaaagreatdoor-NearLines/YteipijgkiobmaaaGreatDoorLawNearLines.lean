/-
  The law NearLines: it returns true for any numbers, in whatever memory where both tables hold what their texts lay.
-/
import Derived.Test.YteipijgkiobmaaaGreatDoorNAwake
import Derived.Test.YteipijgkiobmaaaGreatDoorNTwin
import Derived.Test.YteipijgkiobmaaaGreatDoorRLine
namespace Go.Proofs.YteipijgkiobmaaaGreatDoor
open Go.RowKit

theorem same_word {r : Nat} {v u : Int} (hv : Whole v) (hu : Whole u) (h1 : wR v = r) (h2 : wR u = r) : stp (cellA u - cellA v) (cellB u - cellB v) = 0 ↔ v = u := by
  constructor
  · intro h
    have h0 := stp_zero h
    have e1 := word_cell hv
    have e2 := word_cell hu
    rw [← e1, ← e2, h1, h2, show cellA u = cellA v by omega, show cellB u = cellB v by omega]
  · rintro rfl
    rw [Int.sub_self, Int.sub_self]
    rfl
/-- What the law asks of a row of words: each is apart from the one ahead. -/
def Chain (L : List Int) : Prop := ∀ (j : Nat) (h : j + 1 < L.length), Whole (L[j]'(by omega)) ∧ Whole L[j + 1] ∧ wR L[j + 1] = wR (L[j]'(by omega)) ∧ 1 ≤ stp (cellA L[j + 1] - cellA (L[j]'(by omega))) (cellB L[j + 1] - cellB (L[j]'(by omega)))
theorem words_chain {r : Nat} {a b : Int} {P : List (Int × Int)} (hP : P.Nodup) : Chain (wordsAt r a b P) := by
  intro j h
  have hn := List.pairwise_iff_getElem.1 (wordsAt_nodup (r := r) a b hP) j (j + 1) (by omega) h (by omega)
  have m1 : (wordsAt r a b P)[j]'(by omega) ∈ wordsAt r a b P := List.getElem_mem _
  have m2 : (wordsAt r a b P)[j + 1] ∈ wordsAt r a b P := List.getElem_mem _
  generalize (wordsAt r a b P)[j]'_ = x at *
  generalize (wordsAt r a b P)[j + 1]'_ = y at *
  obtain ⟨p, q, -, hO, rfl⟩ := mem_wordsAt.1 m1
  obtain ⟨s, t, -, hO2, rfl⟩ := mem_wordsAt.1 m2
  have e1 := word_eq hO
  have e2 := word_eq hO2
  refine ⟨e1.1, e2.1, by rw [e1.2.1, e2.2.1], ?_⟩
  have h0 := same_word e1.1 e2.1 e1.2.1 e2.2.1
  have h1 := (stp_ge (cellA (wordOf r (a + s) (b + t)) - cellA (wordOf r (a + p) (b + q))) (cellB (wordOf r (a + s) (b + t)) - cellB (wordOf r (a + p) (b + q)))).1
  have h2 : ¬ stp (cellA (wordOf r (a + s) (b + t)) - cellA (wordOf r (a + p) (b + q))) (cellB (wordOf r (a + s) (b + t)) - cellB (wordOf r (a + p) (b + q))) = 0 := fun e => hn (h0.1 e)
  omega
/-- One row, told by both. -/
theorem twin_line (v u : Int) (hv : Whole v) (hu : Whole u) : ∃ (L : List Int) (t : Int), L.length ≤ 10001 ∧ (∀ w, Tabs w → Calls Tryz.prog 10 #[.int .u64 v, .int .u64 u] w fun e w' => RowErr L t e w' ∧ Below w.heap.size w w') ∧ (∀ w, Calls Tryz.prog 24 #[.int .u64 v, .int .u64 u] w fun e w' => RowErr L t e w' ∧ Below w.heap.size w w') ∧ Chain L := by
  have bv := whole_box hv
  have bu := whole_box hu
  have uv : U64 v := ⟨by omega, by omega⟩
  have uu : U64 u := ⟨by omega, by omega⟩
  have none : ∀ t, (PairNo v u t ∨ (Whole v ∧ Whole u ∧ wR u = wR v ∧ 10000 < stp (cellA u - cellA v) (cellB u - cellB v) ∧ t = 7)) → ∃ (L : List Int) (t : Int), L.length ≤ 10001 ∧ (∀ w, Tabs w → Calls Tryz.prog 10 #[.int .u64 v, .int .u64 u] w fun e w' => RowErr L t e w' ∧ Below w.heap.size w w') ∧ (∀ w, Calls Tryz.prog 24 #[.int .u64 v, .int .u64 u] w fun e w' => RowErr L t e w' ∧ Below w.heap.size w w') ∧ Chain L := fun t ht =>
    ⟨[], t, Nat.zero_le _, fun w hT => (nline_no v u t uv uu ht w hT).mono fun _ _ ⟨he, hb⟩ => ⟨rowErr_nil he, hb⟩, fun w => (rline_no v u t uv uu ht w).mono fun _ _ ⟨he, hb⟩ => ⟨rowErr_nil he, hb⟩, fun j h => by simp at h⟩
  by_cases hr : wR u = wR v
  · by_cases hs : stp (cellA u - cellA v) (cellB u - cellB v) = 0
    · have hw := wR_box v
      obtain rfl : v = u := (same_word (r := (wR v).toNat) hv hu (by omega) (by omega)).1 hs
      refine ⟨[v], 0, by simp, fun w hT => (nline_zero v hv w hT).mono fun _ _ ⟨⟨s, he, h⟩, hb⟩ => ⟨⟨s, he, h.mono (Nat.zero_le _)⟩, hb⟩, fun w => (rline_zero v hv w).mono fun _ _ ⟨⟨s, he, h⟩, hb⟩ => ⟨⟨s, he, h.mono (Nat.zero_le _)⟩, hb⟩, fun j h => by simp at h⟩
    · by_cases h1 : stp (cellA u - cellA v) (cellB u - cellB v) ≤ 10000
      · have h0 := (stp_ge (cellA u - cellA v) (cellB u - cellB v)).1
        obtain ⟨f, hf⟩ := line_some (n := stp (cellA u - cellA v) (cellB u - cellB v)) (by omega) rfl
        refine ⟨wordsAt (wR v).toNat (cellA v) (cellB v) (lineP f ((stp (cellA u - cellA v) (cellB u - cellB v)).toNat + 1)), 0, ?_, fun w hT => (nline_yes v u hv hu hr hf h1 w hT).mono fun _ _ ⟨⟨s, he, h⟩, hb⟩ => ⟨⟨s, he, h.mono (Nat.zero_le _)⟩, hb⟩, fun w => (rline_yes v u hv hu hr hf h1 w).mono fun _ _ ⟨⟨s, he, h⟩, hb⟩ => ⟨⟨s, he, h.mono (Nat.zero_le _)⟩, hb⟩, words_chain (lineP_nodup hf _)⟩
        have := wordsAt_len (wR v).toNat (cellA v) (cellB v) (lineP f ((stp (cellA u - cellA v) (cellB u - cellB v)).toNat + 1))
        rw [lineP_len] at this
        omega
      · exact none 7 (.inr ⟨hv, hu, hr, by omega, rfl⟩)
  · exact none 8 (.inl (.inr (.inr ⟨hv, hu, fun h => hr h.symm, rfl⟩)))

set_option maxHeartbeats 8000000 in
set_option maxRecDepth 20000 in
theorem nearLines_walk (x0 y0 r0 a0 b0 s0 : Int) (w : World) (hT : Tabs w) : Calls Tryz.prog 7 #[.int .i64 x0, .int .i64 y0, .int .i64 r0, .int .i64 a0, .int .i64 b0, .int .i64 s0] w fun e w' => e = .returned (.bool true) ∧ Below w.heap.size w w' := by
  obtain ⟨s1, -, S1⟩ := aword_any x0 y0 r0
  obtain ⟨s2, -, S2⟩ := aword_any a0 b0 s0
  replace S1 := hidd S1
  replace S2 := hidd S2
  have hT0 : Hid (Tabs w) := hT
  obtain ⟨A, hA, a1, a2⟩ : ∃ A, a0.tmod 100 = A ∧ -99 ≤ A ∧ A ≤ 99 := by
    have := Int.tmod_lt_of_pos a0 (show (0 : Int) < 100 by omega)
    have := Int.lt_tmod_of_pos a0 (show (0 : Int) < 100 by omega)
    exact ⟨_, rfl, by omega, by omega⟩
  obtain ⟨B, hBB, b1, b2⟩ : ∃ A, b0.tmod 100 = A ∧ -99 ≤ A ∧ A ≤ 99 := by
    have := Int.tmod_lt_of_pos b0 (show (0 : Int) < 100 by omega)
    have := Int.lt_tmod_of_pos b0 (show (0 : Int) < 100 by omega)
    exact ⟨_, rfl, by omega, by omega⟩
  clear hT
  go_enter Tryz.func7, Tryz.ntmps7
  go_wp2_with fail
  refine (S1.out _).mono ?_
  rintro e w1 ⟨⟨P, Q, rfl, O1⟩, b1'⟩
  have A1 := word_eq O1
  have hp := ok4_part O1
  have C1 := hidd (rwcell_yes _ A1.1)
  rw [A1.2.1, A1.2.2.1, A1.2.2.2.1] at C1
  have RW := hidd (rword_yes s1 P Q O1)
  have hZ := hidd A1.1
  generalize wordOf s1 P Q = Z at *
  obtain ⟨X, hX⟩ : ∃ X, P + A = X := ⟨_, rfl⟩
  obtain ⟨Y, hY⟩ : ∃ Y, Q + B = Y := ⟨_, rfl⟩
  clear S1 O1 A1
  go_wp2_with fail
  refine (C1.out _).mono ?_
  rintro e w2 ⟨rfl, b2'⟩
  have B2 := belowT b1' b2'
  clear C1 b1' b2'
  have hal := allocB w2 (.cells #[.int .i64 s1, .int .i64 P, .int .i64 Q] 37)
  have B2a := belowT B2 hal
  go_wp2_with fail
  refine (RW.out _).mono ?_
  rintro e w3 ⟨rfl, b3⟩
  have x0' := keepCell b3 (show (w2.alloc (.cells #[.int .i64 s1, .int .i64 P, .int .i64 Q] 37)).cell? ⟨w2.heap.size, 0, none⟩ = some (.int .i64 s1) by go_simp)
  have x1' := keepCell b3 (show (w2.alloc (.cells #[.int .i64 s1, .int .i64 P, .int .i64 Q] 37)).cell? ⟨w2.heap.size, 1, none⟩ = some (.int .i64 P) by go_simp)
  have x2' := keepCell b3 (show (w2.alloc (.cells #[.int .i64 s1, .int .i64 P, .int .i64 Q] 37)).cell? ⟨w2.heap.size, 2, none⟩ = some (.int .i64 Q) by go_simp)
  have B3 := belowT B2a b3
  clear b3 RW hal B2 B2a
  have hal := allocB w3 (.cells #[.int .i64 s1, .int .i64 X, .int .i64 Y] 37)
  have B3a := belowT B3 hal
  by_cases hok : Ok4 (s1 : Int) X Y
  · have RD := hidd (rword_yes s1 X Y hok)
    have hO := (word_eq hok).1
    generalize wordOf s1 X Y = O at *
    clear hok
    go_wp2_with fail
    refine (RD.out _).mono ?_
    rintro e w4 ⟨rfl, b4⟩
    have B4 := belowT B3a b4
    obtain ⟨L, t, hL, N1, N2, CH⟩ := twin_line Z O hZ.out hO
    replace N1 := hidd N1
    replace N2 := hidd N2
    clear b4 RD hal B3 B3a x0' x1' x2' hO hX hY hA hBB
    have T4 := hidd (hT0.out.below B4)
    go_wp2_with fail
    refine (N1.out _ T4.out).mono ?_
    rintro e w5 ⟨⟨s5, rfl, r5⟩, b5⟩
    have B5 := belowT B4 b5
    clear N1 T4 B4 b5
    go_wp2_with fail
    refine (N2.out _).mono ?_
    rintro e w6 ⟨⟨s6, rfl, r6⟩, b6⟩
    have B6 := belowT B5 b6
    obtain ⟨q5, cap5, rfl, hp5⟩ := (r5.keep b6).form
    obtain ⟨q6, cap6, rfl, hp6⟩ := r6.form
    have H5 := hidd hp5
    have H6 := hidd hp6
    obtain ⟨m, em⟩ : ∃ m, L.length = m := ⟨_, rfl⟩
    have EM := hidd em
    have CHH := hidd CH
    rw [em] at hL ⊢
    clear N2 B5 b6 r5 r6 hp5 hp6 em CH
    go_wp2_with fail
    obtain ⟨wO, rfl⟩ : ∃ z, z = w6 := ⟨_, rfl⟩
    go_loopw [24] (fun v24 wr => ∃ j : Nat, j ≤ m ∧ v24 = .int .i64 (j : Int) ∧ Below wO.heap.size wO wr) (fun v24 _ => m - (intOf v24).toNat)
    case atStart => exact ⟨0, by omega, rfl, Below.refl _ _⟩
    case round =>
      obtain ⟨j, hj, rfl, hBj⟩ := hrel
      by_cases hjm : j < m
      · obtain ⟨g, hg, x1⟩ := H5.out j (by rw [EM.out]; exact hjm)
        subst hg
        obtain ⟨g2, hg2, x2⟩ := H6.out j (by rw [EM.out]; exact hjm)
        subst hg2
        replace x1 := keepCell hBj x1
        replace x2 := keepCell hBj x2
        have hzz : (j : Int) < (m : Int) := by omega
        rcases Nat.eq_zero_or_pos j with h0 | h0
        · subst h0
          generalize L[0]'_ = y at *
          clear H5 H6 CHH
          go_wp2_with fail
          go_quiet (fail)
          go_wp2
          go_roundw
          case rel => exact ⟨1, by omega, by go_num, belowN hBj _⟩
          case measure => simp [intOf]; omega
        · obtain ⟨i, ei⟩ : ∃ i, j = i + 1 := ⟨j - 1, by omega⟩
          have him : i < m := by omega
          obtain ⟨g3, hg3, x3⟩ := H5.out i (by rw [EM.out]; exact him)
          simp only [Option.some.injEq, Addr.mk.injEq, and_true] at hg3
          subst hg3
          replace x3 := keepCell hBj x3
          obtain ⟨d1, d2, d3, d4⟩ := CHH.out i (by rw [EM.out]; omega)
          have eL : L[i + 1]'(by rw [EM.out]; omega) = L[j]'(by rw [EM.out]; omega) := by subst ei; rfl
          rw [eL] at d2 d3 d4
          generalize L[j]'_ = y at *
          generalize L[i]'_ = x at *
          have DK := hidd (ndist_yes x y d1 d2 d3)
          generalize stp (cellA y - cellA x) (cellB y - cellB x) = n at *
          have hji : IntKind.i64.wrap ((j : Int) - 1) = (i : Int) := by rw [IntKind.wrap_i64]; omega
          have hiz : (i : Int) < (m : Int) := by omega
          have hj0 : decide (0 < (j : Int)) = true := decide_eq_true (by omega)
          have hm1 : decide (1 < (m : Int)) = true := decide_eq_true (by omega)
          have hn1 : decide (n < 1) = false := decide_eq_false (by omega)
          clear H5 H6 CHH d1 d2 d3 d4 eL ei
          go_wp2_with fail
          go_quiet (fail)
          have c3 : (wr.drewN nq).cell? ⟨g, i, none⟩ = some (.int .u64 x) := x3
          have c1 : (wr.drewN nq).cell? ⟨g, j, none⟩ = some (.int .u64 y) := x1
          have hBq := belowN hBj nq
          clear x1 x2 x3 hBj
          generalize wr.drewN nq = wq at c3 c1 hBq ⊢
          have hS0 : wq.drew.cell? ⟨g, i, none⟩ = some (.int .u64 x) ∧ wq.drew.cell? ⟨g, j, none⟩ = some (.int .u64 y) ∧ Below wq.heap.size wq wq.drew := ⟨c3, c1, (Below.refl _ _).drew⟩
          have TS : Hid (∀ wx, Below wq.heap.size wq wx → Tabs wx) := hidd fun wx h => (hT0.out.below (belowT B6 hBq)).below h
          go_wp2_with fail
          go_region_held3 (fun w' => w'.cell? ⟨g, i, none⟩ = some (.int .u64 x) ∧ w'.cell? ⟨g, j, none⟩ = some (.int .u64 y) ∧ Below wq.heap.size wq w') (first | exact hS0 | exact keepTwoW hb (by assumption)) (first | (go_at_call 12; refine (DK.out _ (TS.out _ (And.right (And.right (by assumption))))).mono ?_; rintro e w' ⟨rfl, hb⟩))
          all_goals
            rename_i hS
            have hW := belowT hBq hS.2.2
            clear hS hS0 hb c1 c3 DK TS hBq
            go_wp2
            go_roundw
            case rel => exact ⟨j + 1, by omega, by go_num, hW⟩
            case measure => simp [intOf]; omega
      · obtain rfl : j = m := by omega
        have BJ := belowT B6 hBj
        have AW := hidd (nawake _ (hT0.out.below BJ))
        clear H5 H6 CHH hBj B6
        go_wp2_with fail
        refine AW.out.mono ?_
        rintro e w10 ⟨rfl, b10⟩
        go_wp2
        go_ret
        exact ⟨rfl, belowT BJ b10⟩
  · have RD := hidd (rword_none (s1 : Int) X Y hok)
    clear hok
    go_wp2_with fail
    refine (RD.out _).mono ?_
    rintro e w4' ⟨rfl, b4'⟩
    have B4' := belowT B3a b4'
    clear b4' RD hal B3 B3a x0' x1' x2' hX hY hA hBB
    go_wp2_with fail
    refine (S2.out _).mono ?_
    rintro e w4 ⟨⟨P2, Q2, rfl, O2⟩, b4⟩
    have B4 := belowT B4' b4
    have hO := (word_eq O2).1
    generalize wordOf s2 P2 Q2 = O at *
    obtain ⟨L, t, hL, N1, N2, CH⟩ := twin_line Z O hZ.out hO
    replace N1 := hidd N1
    replace N2 := hidd N2
    clear S2 O2 b4 B4' hO
    have T4 := hidd (hT0.out.below B4)
    go_wp2_with fail
    refine (N1.out _ T4.out).mono ?_
    rintro e w5 ⟨⟨s5, rfl, r5⟩, b5⟩
    have B5 := belowT B4 b5
    clear N1 T4 B4 b5
    go_wp2_with fail
    refine (N2.out _).mono ?_
    rintro e w6 ⟨⟨s6, rfl, r6⟩, b6⟩
    have B6 := belowT B5 b6
    obtain ⟨q5, cap5, rfl, hp5⟩ := (r5.keep b6).form
    obtain ⟨q6, cap6, rfl, hp6⟩ := r6.form
    have H5 := hidd hp5
    have H6 := hidd hp6
    obtain ⟨m, em⟩ : ∃ m, L.length = m := ⟨_, rfl⟩
    have EM := hidd em
    have CHH := hidd CH
    rw [em] at hL ⊢
    clear N2 B5 b6 r5 r6 hp5 hp6 em CH
    go_wp2_with fail
    obtain ⟨wO, rfl⟩ : ∃ z, z = w6 := ⟨_, rfl⟩
    go_loopw [24] (fun v24 wr => ∃ j : Nat, j ≤ m ∧ v24 = .int .i64 (j : Int) ∧ Below wO.heap.size wO wr) (fun v24 _ => m - (intOf v24).toNat)
    case atStart => exact ⟨0, by omega, rfl, Below.refl _ _⟩
    case round =>
      obtain ⟨j, hj, rfl, hBj⟩ := hrel
      by_cases hjm : j < m
      · obtain ⟨g, hg, x1⟩ := H5.out j (by rw [EM.out]; exact hjm)
        subst hg
        obtain ⟨g2, hg2, x2⟩ := H6.out j (by rw [EM.out]; exact hjm)
        subst hg2
        replace x1 := keepCell hBj x1
        replace x2 := keepCell hBj x2
        have hzz : (j : Int) < (m : Int) := by omega
        generalize L[j]'_ = y at *
        clear H5 H6 CHH
        go_wp2_with fail
        go_quiet (fail)
        go_wp2
        go_roundw
        case rel => exact ⟨j + 1, by omega, by go_num, belowN hBj _⟩
        case measure => simp [intOf]; omega
      · obtain rfl : j = m := by omega
        have BJ := belowT B6 hBj
        have AW := hidd (nawake _ (hT0.out.below BJ))
        clear H5 H6 CHH hBj B6
        go_wp2_with fail
        refine AW.out.mono ?_
        rintro e w10 ⟨rfl, b10⟩
        go_wp2
        go_ret
        exact ⟨rfl, belowT BJ b10⟩
end Go.Proofs.YteipijgkiobmaaaGreatDoor
