/-
  The law IdentOne answers true for every six numbers and every two words, in whatever memory where the tables hold what their texts lay: unlike cells have unlike words, unlike words unlike texts.
-/
import Derived.Test.YtlipbdiijjfheaaGreatDoorRWord
import Derived.Test.YtlipbdiijjfheaaGreatDoorICell
import Derived.Test.YtlipbdiijjfheaaGreatDoorRHex
import Derived.Test.YtlipbdiijjfheaaGreatDoorIAwake
import Derived.Laws.StructEq
namespace Go.Proofs.YtlipbdiijjfheaaGreatDoor
open Go.RowKit

theorem toList_ne {a b : ByteArray} (h : a ≠ b) : (a.toList == b.toList) = false :=
  beq_false_of_ne fun e => h (by rw [ByteArray.toList_eq, ByteArray.toList_eq] at e; exact ByteArray.ext (Array.toList_inj.1 e))

set_option maxHeartbeats 32000000 in
set_option maxRecDepth 20000 in
theorem identOne_walk (x y r u v s0 a b : Int) (_x1 : -9223372036854775808 ≤ x) (_x2 : x ≤ 9223372036854775807) (_y1 : -9223372036854775808 ≤ y) (_y2 : y ≤ 9223372036854775807) (_r1 : -9223372036854775808 ≤ r) (_r2 : r ≤ 9223372036854775807) (_u1 : -9223372036854775808 ≤ u) (_u2 : u ≤ 9223372036854775807) (_v1 : -9223372036854775808 ≤ v) (_v2 : v ≤ 9223372036854775807) (_s1 : -9223372036854775808 ≤ s0) (_s2 : s0 ≤ 9223372036854775807) (a1 : 0 ≤ a) (a2 : a ≤ 18446744073709551615) (b1 : 0 ≤ b) (b2 : b ≤ 18446744073709551615) (w : World) (hT : Five w) :
    Calls Tryz.prog 4 #[.int .i64 x, .int .i64 y, .int .i64 r, .int .i64 u, .int .i64 v, .int .i64 s0, .int .u64 a, .int .u64 b] w fun e w' => e = .returned (.bool true) ∧ Below w.heap.size w w' := by
  obtain ⟨na, rfl⟩ := Int.eq_ofNat_of_zero_le a1
  obtain ⟨nb, rfl⟩ := Int.eq_ofNat_of_zero_le b1
  have la : na < 18446744073709551616 := by omega
  have lb : nb < 18446744073709551616 := by omega
  have TA : Hid _ := itext na la
  have TB : Hid _ := itext nb lb
  have HA : Hid _ := rhex16 na la
  have hab : ((na : Int) == (nb : Int)) = true ∧ text16 na = text16 nb ∨ ((na : Int) == (nb : Int)) = false ∧ text16 na ≠ text16 nb := by
    by_cases h : na = nb
    · exact .inl ⟨by simp [h], by rw [h]⟩
    · exact .inr ⟨by simp; omega, fun e => h (text16_inj la lb e)⟩
  have hsz := text16_size na
  obtain ⟨s, s12, S1⟩ := aword_any x y r
  obtain ⟨t, t12, S2⟩ := aword_any u v s0
  replace S1 : Hid _ := S1
  replace S2 : Hid _ := S2
  have hT0 : Hid (Five w) := hT
  clear hT a1 a2 b1 b2 la lb
  generalize text16 na = ta at *
  generalize text16 nb = tb at *
  go_enter Tryz.func4, Tryz.ntmps4
  go_wp2_with fail
  refine (S1.out _).mono ?_
  rintro e w1 ⟨⟨P, Q, rfl, hO⟩, d1⟩
  have c1 : Below w.heap.size w w1 := Below.trans (by go_grown) (d1.mono (by simp; try omega))
  have hB := c1
  clear c1 d1
  go_wp2_with fail
  refine (S2.out _).mono ?_
  rintro e w2 ⟨⟨U, V, rfl, hO2⟩, d2⟩
  have c2 : Below w1.heap.size w1 w2 := Below.trans (by go_grown) (d2.mono (by simp; try omega))
  replace hB := belowT hB c2
  clear c2 d2
  have hp := word_parts hO
  have hp2 := word_parts hO2
  have C1 : Hid (∀ w, Tabs w → Calls Tryz.prog 14 #[.int .u64 (wordOf s P Q)] w fun e w' => e = .returned (.tuple #[.agg #[.int .i64 (s : Int), .int .i64 P, .int .i64 Q], .int .i64 0]) ∧ Below w.heap.size w w') := fun w hT => by
    have := icell_yes _ hp.1 w hT
    rwa [hp.2.1, (cell_word hO).1, (cell_word hO).2] at this
  have C2 : Hid (∀ w, Tabs w → Calls Tryz.prog 14 #[.int .u64 (wordOf t U V)] w fun e w' => e = .returned (.tuple #[.agg #[.int .i64 (t : Int), .int .i64 U, .int .i64 V], .int .i64 0]) ∧ Below w.heap.size w w') := fun w hT => by
    have := icell_yes _ hp2.1 w hT
    rwa [hp2.2.1, (cell_word hO2).1, (cell_word hO2).2] at this
  have hinj : wordOf s P Q = wordOf t U V → s = t ∧ P = U ∧ Q = V := word_inj hO hO2
  have hpq : (s = t ∧ P = U ∧ Q = V) ∨ (((s : Int) == (t : Int)) = false ∧ (wordOf s P Q == wordOf t U V) = false) ∨ ((P == U) = false ∧ (wordOf s P Q == wordOf t U V) = false) ∨ ((Q == V) = false ∧ (wordOf s P Q == wordOf t U V) = false) := by
    by_cases h1 : s = t
    · by_cases h2 : P = U
      · by_cases h3 : Q = V
        · exact .inl ⟨h1, h2, h3⟩
        · exact .inr (.inr (.inr ⟨by simpa using h3, by simp; exact fun e => h3 (hinj e).2.2⟩))
      · exact .inr (.inr (.inl ⟨by simpa using h2, by simp; exact fun e => h2 (hinj e).2.1⟩))
    · exact .inr (.inl ⟨by simp; omega, by simp; exact fun e => h1 (hinj e).1⟩)
  clear hp hp2 hinj hO hO2 S1 S2
  go_wp2_with fail
  refine (C1.out _ ?_).mono ?_
  · exact hT0.out.1.below hB
  rintro e w3 ⟨rfl, d3⟩
  have c3 : Below w2.heap.size w2 w3 := Below.trans (by go_grown) (d3.mono (by simp; try omega))
  replace hB := belowT hB c3
  clear c3 d3
  go_wp2_with fail
  refine (C2.out _ ?_).mono ?_
  · exact hT0.out.1.below (belowT hB (by go_grown))
  rintro e w4 ⟨rfl, d4⟩
  have c4 : Below w3.heap.size w3 w4 := Below.trans (by go_grown) (d4.mono (by simp; try omega))
  have ka : w4.cell? ⟨w3.heap.size, 0, none⟩ = some (.int .i64 (s : Int)) := keepCell d4 (by go_simp)
  have qka := World.block_lt_of_cell? _ _ ka
  have kb : w4.cell? ⟨w3.heap.size, 1, none⟩ = some (.int .i64 P) := keepCell d4 (by go_simp)
  have kc : w4.cell? ⟨w3.heap.size, 2, none⟩ = some (.int .i64 Q) := keepCell d4 (by go_simp)
  replace hB := belowT hB c4
  clear c4 d4
  clear C1 C2
  rcases hpq with ⟨rfl, rfl, rfl⟩ | ⟨hs, hw⟩ | ⟨hs, hw⟩ | ⟨hs, hw⟩
  · skip
    generalize wordOf s P Q = W1 at *
    rcases hab with ⟨e1, rfl⟩ | ⟨e1, e2⟩
    · skip
      go_wp2_with fail
      refine (TA.out _ ?_).mono ?_
      · exact hT0.out.2.below (belowT hB (by go_grown))
      rintro e w5 ⟨rfl, d5⟩
      have c5 : Below w4.heap.size w4 w5 := Below.trans (by go_grown) (d5.mono (by simp; try omega))
      replace ka := keepCell c5 ka
      replace qka := World.block_lt_of_cell? _ _ ka
      replace kb := keepCell c5 kb
      replace kc := keepCell c5 kc
      have la : w5.cell? ⟨w4.heap.size, 0, none⟩ = some (.int .i64 (s : Int)) := keepCell d5 (by go_simp)
      have qla := World.block_lt_of_cell? _ _ la
      have lb : w5.cell? ⟨w4.heap.size, 1, none⟩ = some (.int .i64 P) := keepCell d5 (by go_simp)
      have lc : w5.cell? ⟨w4.heap.size, 2, none⟩ = some (.int .i64 Q) := keepCell d5 (by go_simp)
      replace hB := belowT hB c5
      clear c5 d5
      go_wp2_with fail
      refine (TB.out _ ?_).mono ?_
      · exact hT0.out.2.below (belowT hB (by go_grown))
      rintro e w6 ⟨rfl, d6⟩
      have c6 : Below w5.heap.size w5 w6 := Below.trans (by go_grown) (d6.mono (by simp; try omega))
      replace ka := keepCell c6 ka
      replace qka := World.block_lt_of_cell? _ _ ka
      replace kb := keepCell c6 kb
      replace kc := keepCell c6 kc
      replace la := keepCell c6 la
      replace qla := World.block_lt_of_cell? _ _ la
      replace lb := keepCell c6 lb
      replace lc := keepCell c6 lc
      replace hB := belowT hB c6
      clear c6 d6
      go_wp2_with fail
      refine (TA.out _ ?_).mono ?_
      · exact hT0.out.2.below (belowT hB (by go_grown))
      rintro e w7 ⟨rfl, d7⟩
      have c7 : Below w6.heap.size w6 w7 := Below.trans (by go_grown) (d7.mono (by simp; try omega))
      replace ka := keepCell c7 ka
      replace qka := World.block_lt_of_cell? _ _ ka
      replace kb := keepCell c7 kb
      replace kc := keepCell c7 kc
      replace la := keepCell c7 la
      replace qla := World.block_lt_of_cell? _ _ la
      replace lb := keepCell c7 lb
      replace lc := keepCell c7 lc
      replace hB := belowT hB c7
      clear c7 d7
      go_wp2_with fail
      refine (TA.out _ ?_).mono ?_
      · exact hT0.out.2.below (belowT hB (by go_grown))
      rintro e w8 ⟨rfl, d8⟩
      have c8 : Below w7.heap.size w7 w8 := Below.trans (by go_grown) (d8.mono (by simp; try omega))
      replace ka := keepCell c8 ka
      replace qka := World.block_lt_of_cell? _ _ ka
      replace kb := keepCell c8 kb
      replace kc := keepCell c8 kc
      replace la := keepCell c8 la
      replace qla := World.block_lt_of_cell? _ _ la
      replace lb := keepCell c8 lb
      replace lc := keepCell c8 lc
      replace hB := belowT hB c8
      clear c8 d8
      go_wp2_with fail
      refine (HA.out _).mono ?_
      rintro e w9 ⟨rfl, d9⟩
      have c9 : Below w8.heap.size w8 w9 := Below.trans (by go_grown) (d9.mono (by simp; try omega))
      replace ka := keepCell c9 ka
      replace qka := World.block_lt_of_cell? _ _ ka
      replace kb := keepCell c9 kb
      replace kc := keepCell c9 kc
      replace la := keepCell c9 la
      replace qla := World.block_lt_of_cell? _ _ la
      replace lb := keepCell c9 lb
      replace lc := keepCell c9 lc
      replace hB := belowT hB c9
      clear c9 d9
      go_wp2_with fail
      refine (iawake _ ?_).mono ?_
      · exact hT0.out.below (belowT hB (by go_grown))
      rintro e w10 ⟨rfl, d10⟩
      have c10 : Below w9.heap.size w9 w10 := Below.trans (by go_grown) (d10.mono (by simp; try omega))
      replace ka := keepCell c10 ka
      replace qka := World.block_lt_of_cell? _ _ ka
      replace kb := keepCell c10 kb
      replace kc := keepCell c10 kc
      replace la := keepCell c10 la
      replace qla := World.block_lt_of_cell? _ _ la
      replace lb := keepCell c10 lb
      replace lc := keepCell c10 lc
      replace hB := belowT hB c10
      clear c10 d10
      go_wp2
      go_ret
      exact ⟨by first | rfl | simp, hB⟩
    · skip
      have e3 : (ta.toList == tb.toList) = false := toList_ne e2
      go_wp2_with fail
      refine (TA.out _ ?_).mono ?_
      · exact hT0.out.2.below (belowT hB (by go_grown))
      rintro e w5 ⟨rfl, d5⟩
      have c5 : Below w4.heap.size w4 w5 := Below.trans (by go_grown) (d5.mono (by simp; try omega))
      replace ka := keepCell c5 ka
      replace qka := World.block_lt_of_cell? _ _ ka
      replace kb := keepCell c5 kb
      replace kc := keepCell c5 kc
      have la : w5.cell? ⟨w4.heap.size, 0, none⟩ = some (.int .i64 (s : Int)) := keepCell d5 (by go_simp)
      have qla := World.block_lt_of_cell? _ _ la
      have lb : w5.cell? ⟨w4.heap.size, 1, none⟩ = some (.int .i64 P) := keepCell d5 (by go_simp)
      have lc : w5.cell? ⟨w4.heap.size, 2, none⟩ = some (.int .i64 Q) := keepCell d5 (by go_simp)
      replace hB := belowT hB c5
      clear c5 d5
      go_wp2_with fail
      refine (TB.out _ ?_).mono ?_
      · exact hT0.out.2.below (belowT hB (by go_grown))
      rintro e w6 ⟨rfl, d6⟩
      have c6 : Below w5.heap.size w5 w6 := Below.trans (by go_grown) (d6.mono (by simp; try omega))
      replace ka := keepCell c6 ka
      replace qka := World.block_lt_of_cell? _ _ ka
      replace kb := keepCell c6 kb
      replace kc := keepCell c6 kc
      replace la := keepCell c6 la
      replace qla := World.block_lt_of_cell? _ _ la
      replace lb := keepCell c6 lb
      replace lc := keepCell c6 lc
      replace hB := belowT hB c6
      clear c6 d6
      go_wp2_with fail
      refine (TA.out _ ?_).mono ?_
      · exact hT0.out.2.below (belowT hB (by go_grown))
      rintro e w7 ⟨rfl, d7⟩
      have c7 : Below w6.heap.size w6 w7 := Below.trans (by go_grown) (d7.mono (by simp; try omega))
      replace ka := keepCell c7 ka
      replace qka := World.block_lt_of_cell? _ _ ka
      replace kb := keepCell c7 kb
      replace kc := keepCell c7 kc
      replace la := keepCell c7 la
      replace qla := World.block_lt_of_cell? _ _ la
      replace lb := keepCell c7 lb
      replace lc := keepCell c7 lc
      replace hB := belowT hB c7
      clear c7 d7
      go_wp2_with fail
      refine (TA.out _ ?_).mono ?_
      · exact hT0.out.2.below (belowT hB (by go_grown))
      rintro e w8 ⟨rfl, d8⟩
      have c8 : Below w7.heap.size w7 w8 := Below.trans (by go_grown) (d8.mono (by simp; try omega))
      replace ka := keepCell c8 ka
      replace qka := World.block_lt_of_cell? _ _ ka
      replace kb := keepCell c8 kb
      replace kc := keepCell c8 kc
      replace la := keepCell c8 la
      replace qla := World.block_lt_of_cell? _ _ la
      replace lb := keepCell c8 lb
      replace lc := keepCell c8 lc
      replace hB := belowT hB c8
      clear c8 d8
      go_wp2_with fail
      refine (HA.out _).mono ?_
      rintro e w9 ⟨rfl, d9⟩
      have c9 : Below w8.heap.size w8 w9 := Below.trans (by go_grown) (d9.mono (by simp; try omega))
      replace ka := keepCell c9 ka
      replace qka := World.block_lt_of_cell? _ _ ka
      replace kb := keepCell c9 kb
      replace kc := keepCell c9 kc
      replace la := keepCell c9 la
      replace qla := World.block_lt_of_cell? _ _ la
      replace lb := keepCell c9 lb
      replace lc := keepCell c9 lc
      replace hB := belowT hB c9
      clear c9 d9
      go_wp2_with fail
      refine (iawake _ ?_).mono ?_
      · exact hT0.out.below (belowT hB (by go_grown))
      rintro e w10 ⟨rfl, d10⟩
      have c10 : Below w9.heap.size w9 w10 := Below.trans (by go_grown) (d10.mono (by simp; try omega))
      replace ka := keepCell c10 ka
      replace qka := World.block_lt_of_cell? _ _ ka
      replace kb := keepCell c10 kb
      replace kc := keepCell c10 kc
      replace la := keepCell c10 la
      replace qla := World.block_lt_of_cell? _ _ la
      replace lb := keepCell c10 lb
      replace lc := keepCell c10 lc
      replace hB := belowT hB c10
      clear c10 d10
      go_wp2
      go_ret
      exact ⟨by first | rfl | simp, hB⟩
  · skip
    generalize wordOf s P Q = W1 at *
    generalize wordOf t U V = W2 at *
    rcases hab with ⟨e1, rfl⟩ | ⟨e1, e2⟩
    · skip
      go_wp2_with fail
      refine (TA.out _ ?_).mono ?_
      · exact hT0.out.2.below (belowT hB (by go_grown))
      rintro e w5 ⟨rfl, d5⟩
      have c5 : Below w4.heap.size w4 w5 := Below.trans (by go_grown) (d5.mono (by simp; try omega))
      replace ka := keepCell c5 ka
      replace qka := World.block_lt_of_cell? _ _ ka
      replace kb := keepCell c5 kb
      replace kc := keepCell c5 kc
      have la : w5.cell? ⟨w4.heap.size, 0, none⟩ = some (.int .i64 (t : Int)) := keepCell d5 (by go_simp)
      have qla := World.block_lt_of_cell? _ _ la
      have lb : w5.cell? ⟨w4.heap.size, 1, none⟩ = some (.int .i64 U) := keepCell d5 (by go_simp)
      have lc : w5.cell? ⟨w4.heap.size, 2, none⟩ = some (.int .i64 V) := keepCell d5 (by go_simp)
      replace hB := belowT hB c5
      clear c5 d5
      go_wp2_with fail
      refine (TB.out _ ?_).mono ?_
      · exact hT0.out.2.below (belowT hB (by go_grown))
      rintro e w6 ⟨rfl, d6⟩
      have c6 : Below w5.heap.size w5 w6 := Below.trans (by go_grown) (d6.mono (by simp; try omega))
      replace ka := keepCell c6 ka
      replace qka := World.block_lt_of_cell? _ _ ka
      replace kb := keepCell c6 kb
      replace kc := keepCell c6 kc
      replace la := keepCell c6 la
      replace qla := World.block_lt_of_cell? _ _ la
      replace lb := keepCell c6 lb
      replace lc := keepCell c6 lc
      replace hB := belowT hB c6
      clear c6 d6
      go_wp2_with fail
      refine (TA.out _ ?_).mono ?_
      · exact hT0.out.2.below (belowT hB (by go_grown))
      rintro e w7 ⟨rfl, d7⟩
      have c7 : Below w6.heap.size w6 w7 := Below.trans (by go_grown) (d7.mono (by simp; try omega))
      replace ka := keepCell c7 ka
      replace qka := World.block_lt_of_cell? _ _ ka
      replace kb := keepCell c7 kb
      replace kc := keepCell c7 kc
      replace la := keepCell c7 la
      replace qla := World.block_lt_of_cell? _ _ la
      replace lb := keepCell c7 lb
      replace lc := keepCell c7 lc
      replace hB := belowT hB c7
      clear c7 d7
      go_wp2_with fail
      refine (TA.out _ ?_).mono ?_
      · exact hT0.out.2.below (belowT hB (by go_grown))
      rintro e w8 ⟨rfl, d8⟩
      have c8 : Below w7.heap.size w7 w8 := Below.trans (by go_grown) (d8.mono (by simp; try omega))
      replace ka := keepCell c8 ka
      replace qka := World.block_lt_of_cell? _ _ ka
      replace kb := keepCell c8 kb
      replace kc := keepCell c8 kc
      replace la := keepCell c8 la
      replace qla := World.block_lt_of_cell? _ _ la
      replace lb := keepCell c8 lb
      replace lc := keepCell c8 lc
      replace hB := belowT hB c8
      clear c8 d8
      go_wp2_with fail
      refine (HA.out _).mono ?_
      rintro e w9 ⟨rfl, d9⟩
      have c9 : Below w8.heap.size w8 w9 := Below.trans (by go_grown) (d9.mono (by simp; try omega))
      replace ka := keepCell c9 ka
      replace qka := World.block_lt_of_cell? _ _ ka
      replace kb := keepCell c9 kb
      replace kc := keepCell c9 kc
      replace la := keepCell c9 la
      replace qla := World.block_lt_of_cell? _ _ la
      replace lb := keepCell c9 lb
      replace lc := keepCell c9 lc
      replace hB := belowT hB c9
      clear c9 d9
      go_wp2_with fail
      refine (iawake _ ?_).mono ?_
      · exact hT0.out.below (belowT hB (by go_grown))
      rintro e w10 ⟨rfl, d10⟩
      have c10 : Below w9.heap.size w9 w10 := Below.trans (by go_grown) (d10.mono (by simp; try omega))
      replace ka := keepCell c10 ka
      replace qka := World.block_lt_of_cell? _ _ ka
      replace kb := keepCell c10 kb
      replace kc := keepCell c10 kc
      replace la := keepCell c10 la
      replace qla := World.block_lt_of_cell? _ _ la
      replace lb := keepCell c10 lb
      replace lc := keepCell c10 lc
      replace hB := belowT hB c10
      clear c10 d10
      go_wp2
      go_ret
      exact ⟨by first | rfl | simp, hB⟩
    · skip
      have e3 : (ta.toList == tb.toList) = false := toList_ne e2
      go_wp2_with fail
      refine (TA.out _ ?_).mono ?_
      · exact hT0.out.2.below (belowT hB (by go_grown))
      rintro e w5 ⟨rfl, d5⟩
      have c5 : Below w4.heap.size w4 w5 := Below.trans (by go_grown) (d5.mono (by simp; try omega))
      replace ka := keepCell c5 ka
      replace qka := World.block_lt_of_cell? _ _ ka
      replace kb := keepCell c5 kb
      replace kc := keepCell c5 kc
      have la : w5.cell? ⟨w4.heap.size, 0, none⟩ = some (.int .i64 (t : Int)) := keepCell d5 (by go_simp)
      have qla := World.block_lt_of_cell? _ _ la
      have lb : w5.cell? ⟨w4.heap.size, 1, none⟩ = some (.int .i64 U) := keepCell d5 (by go_simp)
      have lc : w5.cell? ⟨w4.heap.size, 2, none⟩ = some (.int .i64 V) := keepCell d5 (by go_simp)
      replace hB := belowT hB c5
      clear c5 d5
      go_wp2_with fail
      refine (TB.out _ ?_).mono ?_
      · exact hT0.out.2.below (belowT hB (by go_grown))
      rintro e w6 ⟨rfl, d6⟩
      have c6 : Below w5.heap.size w5 w6 := Below.trans (by go_grown) (d6.mono (by simp; try omega))
      replace ka := keepCell c6 ka
      replace qka := World.block_lt_of_cell? _ _ ka
      replace kb := keepCell c6 kb
      replace kc := keepCell c6 kc
      replace la := keepCell c6 la
      replace qla := World.block_lt_of_cell? _ _ la
      replace lb := keepCell c6 lb
      replace lc := keepCell c6 lc
      replace hB := belowT hB c6
      clear c6 d6
      go_wp2_with fail
      refine (TA.out _ ?_).mono ?_
      · exact hT0.out.2.below (belowT hB (by go_grown))
      rintro e w7 ⟨rfl, d7⟩
      have c7 : Below w6.heap.size w6 w7 := Below.trans (by go_grown) (d7.mono (by simp; try omega))
      replace ka := keepCell c7 ka
      replace qka := World.block_lt_of_cell? _ _ ka
      replace kb := keepCell c7 kb
      replace kc := keepCell c7 kc
      replace la := keepCell c7 la
      replace qla := World.block_lt_of_cell? _ _ la
      replace lb := keepCell c7 lb
      replace lc := keepCell c7 lc
      replace hB := belowT hB c7
      clear c7 d7
      go_wp2_with fail
      refine (TA.out _ ?_).mono ?_
      · exact hT0.out.2.below (belowT hB (by go_grown))
      rintro e w8 ⟨rfl, d8⟩
      have c8 : Below w7.heap.size w7 w8 := Below.trans (by go_grown) (d8.mono (by simp; try omega))
      replace ka := keepCell c8 ka
      replace qka := World.block_lt_of_cell? _ _ ka
      replace kb := keepCell c8 kb
      replace kc := keepCell c8 kc
      replace la := keepCell c8 la
      replace qla := World.block_lt_of_cell? _ _ la
      replace lb := keepCell c8 lb
      replace lc := keepCell c8 lc
      replace hB := belowT hB c8
      clear c8 d8
      go_wp2_with fail
      refine (HA.out _).mono ?_
      rintro e w9 ⟨rfl, d9⟩
      have c9 : Below w8.heap.size w8 w9 := Below.trans (by go_grown) (d9.mono (by simp; try omega))
      replace ka := keepCell c9 ka
      replace qka := World.block_lt_of_cell? _ _ ka
      replace kb := keepCell c9 kb
      replace kc := keepCell c9 kc
      replace la := keepCell c9 la
      replace qla := World.block_lt_of_cell? _ _ la
      replace lb := keepCell c9 lb
      replace lc := keepCell c9 lc
      replace hB := belowT hB c9
      clear c9 d9
      go_wp2_with fail
      refine (iawake _ ?_).mono ?_
      · exact hT0.out.below (belowT hB (by go_grown))
      rintro e w10 ⟨rfl, d10⟩
      have c10 : Below w9.heap.size w9 w10 := Below.trans (by go_grown) (d10.mono (by simp; try omega))
      replace ka := keepCell c10 ka
      replace qka := World.block_lt_of_cell? _ _ ka
      replace kb := keepCell c10 kb
      replace kc := keepCell c10 kc
      replace la := keepCell c10 la
      replace qla := World.block_lt_of_cell? _ _ la
      replace lb := keepCell c10 lb
      replace lc := keepCell c10 lc
      replace hB := belowT hB c10
      clear c10 d10
      go_wp2
      go_ret
      exact ⟨by first | rfl | simp, hB⟩
  · skip
    generalize wordOf s P Q = W1 at *
    generalize wordOf t U V = W2 at *
    rcases hab with ⟨e1, rfl⟩ | ⟨e1, e2⟩
    · skip
      go_wp2_with fail
      refine (TA.out _ ?_).mono ?_
      · exact hT0.out.2.below (belowT hB (by go_grown))
      rintro e w5 ⟨rfl, d5⟩
      have c5 : Below w4.heap.size w4 w5 := Below.trans (by go_grown) (d5.mono (by simp; try omega))
      replace ka := keepCell c5 ka
      replace qka := World.block_lt_of_cell? _ _ ka
      replace kb := keepCell c5 kb
      replace kc := keepCell c5 kc
      have la : w5.cell? ⟨w4.heap.size, 0, none⟩ = some (.int .i64 (t : Int)) := keepCell d5 (by go_simp)
      have qla := World.block_lt_of_cell? _ _ la
      have lb : w5.cell? ⟨w4.heap.size, 1, none⟩ = some (.int .i64 U) := keepCell d5 (by go_simp)
      have lc : w5.cell? ⟨w4.heap.size, 2, none⟩ = some (.int .i64 V) := keepCell d5 (by go_simp)
      replace hB := belowT hB c5
      clear c5 d5
      go_wp2_with fail
      refine (TB.out _ ?_).mono ?_
      · exact hT0.out.2.below (belowT hB (by go_grown))
      rintro e w6 ⟨rfl, d6⟩
      have c6 : Below w5.heap.size w5 w6 := Below.trans (by go_grown) (d6.mono (by simp; try omega))
      replace ka := keepCell c6 ka
      replace qka := World.block_lt_of_cell? _ _ ka
      replace kb := keepCell c6 kb
      replace kc := keepCell c6 kc
      replace la := keepCell c6 la
      replace qla := World.block_lt_of_cell? _ _ la
      replace lb := keepCell c6 lb
      replace lc := keepCell c6 lc
      replace hB := belowT hB c6
      clear c6 d6
      go_wp2_with fail
      refine (TA.out _ ?_).mono ?_
      · exact hT0.out.2.below (belowT hB (by go_grown))
      rintro e w7 ⟨rfl, d7⟩
      have c7 : Below w6.heap.size w6 w7 := Below.trans (by go_grown) (d7.mono (by simp; try omega))
      replace ka := keepCell c7 ka
      replace qka := World.block_lt_of_cell? _ _ ka
      replace kb := keepCell c7 kb
      replace kc := keepCell c7 kc
      replace la := keepCell c7 la
      replace qla := World.block_lt_of_cell? _ _ la
      replace lb := keepCell c7 lb
      replace lc := keepCell c7 lc
      replace hB := belowT hB c7
      clear c7 d7
      go_wp2_with fail
      refine (TA.out _ ?_).mono ?_
      · exact hT0.out.2.below (belowT hB (by go_grown))
      rintro e w8 ⟨rfl, d8⟩
      have c8 : Below w7.heap.size w7 w8 := Below.trans (by go_grown) (d8.mono (by simp; try omega))
      replace ka := keepCell c8 ka
      replace qka := World.block_lt_of_cell? _ _ ka
      replace kb := keepCell c8 kb
      replace kc := keepCell c8 kc
      replace la := keepCell c8 la
      replace qla := World.block_lt_of_cell? _ _ la
      replace lb := keepCell c8 lb
      replace lc := keepCell c8 lc
      replace hB := belowT hB c8
      clear c8 d8
      go_wp2_with fail
      refine (HA.out _).mono ?_
      rintro e w9 ⟨rfl, d9⟩
      have c9 : Below w8.heap.size w8 w9 := Below.trans (by go_grown) (d9.mono (by simp; try omega))
      replace ka := keepCell c9 ka
      replace qka := World.block_lt_of_cell? _ _ ka
      replace kb := keepCell c9 kb
      replace kc := keepCell c9 kc
      replace la := keepCell c9 la
      replace qla := World.block_lt_of_cell? _ _ la
      replace lb := keepCell c9 lb
      replace lc := keepCell c9 lc
      replace hB := belowT hB c9
      clear c9 d9
      go_wp2_with fail
      refine (iawake _ ?_).mono ?_
      · exact hT0.out.below (belowT hB (by go_grown))
      rintro e w10 ⟨rfl, d10⟩
      have c10 : Below w9.heap.size w9 w10 := Below.trans (by go_grown) (d10.mono (by simp; try omega))
      replace ka := keepCell c10 ka
      replace qka := World.block_lt_of_cell? _ _ ka
      replace kb := keepCell c10 kb
      replace kc := keepCell c10 kc
      replace la := keepCell c10 la
      replace qla := World.block_lt_of_cell? _ _ la
      replace lb := keepCell c10 lb
      replace lc := keepCell c10 lc
      replace hB := belowT hB c10
      clear c10 d10
      go_wp2
      go_ret
      exact ⟨by first | rfl | simp, hB⟩
    · skip
      have e3 : (ta.toList == tb.toList) = false := toList_ne e2
      go_wp2_with fail
      refine (TA.out _ ?_).mono ?_
      · exact hT0.out.2.below (belowT hB (by go_grown))
      rintro e w5 ⟨rfl, d5⟩
      have c5 : Below w4.heap.size w4 w5 := Below.trans (by go_grown) (d5.mono (by simp; try omega))
      replace ka := keepCell c5 ka
      replace qka := World.block_lt_of_cell? _ _ ka
      replace kb := keepCell c5 kb
      replace kc := keepCell c5 kc
      have la : w5.cell? ⟨w4.heap.size, 0, none⟩ = some (.int .i64 (t : Int)) := keepCell d5 (by go_simp)
      have qla := World.block_lt_of_cell? _ _ la
      have lb : w5.cell? ⟨w4.heap.size, 1, none⟩ = some (.int .i64 U) := keepCell d5 (by go_simp)
      have lc : w5.cell? ⟨w4.heap.size, 2, none⟩ = some (.int .i64 V) := keepCell d5 (by go_simp)
      replace hB := belowT hB c5
      clear c5 d5
      go_wp2_with fail
      refine (TB.out _ ?_).mono ?_
      · exact hT0.out.2.below (belowT hB (by go_grown))
      rintro e w6 ⟨rfl, d6⟩
      have c6 : Below w5.heap.size w5 w6 := Below.trans (by go_grown) (d6.mono (by simp; try omega))
      replace ka := keepCell c6 ka
      replace qka := World.block_lt_of_cell? _ _ ka
      replace kb := keepCell c6 kb
      replace kc := keepCell c6 kc
      replace la := keepCell c6 la
      replace qla := World.block_lt_of_cell? _ _ la
      replace lb := keepCell c6 lb
      replace lc := keepCell c6 lc
      replace hB := belowT hB c6
      clear c6 d6
      go_wp2_with fail
      refine (TA.out _ ?_).mono ?_
      · exact hT0.out.2.below (belowT hB (by go_grown))
      rintro e w7 ⟨rfl, d7⟩
      have c7 : Below w6.heap.size w6 w7 := Below.trans (by go_grown) (d7.mono (by simp; try omega))
      replace ka := keepCell c7 ka
      replace qka := World.block_lt_of_cell? _ _ ka
      replace kb := keepCell c7 kb
      replace kc := keepCell c7 kc
      replace la := keepCell c7 la
      replace qla := World.block_lt_of_cell? _ _ la
      replace lb := keepCell c7 lb
      replace lc := keepCell c7 lc
      replace hB := belowT hB c7
      clear c7 d7
      go_wp2_with fail
      refine (TA.out _ ?_).mono ?_
      · exact hT0.out.2.below (belowT hB (by go_grown))
      rintro e w8 ⟨rfl, d8⟩
      have c8 : Below w7.heap.size w7 w8 := Below.trans (by go_grown) (d8.mono (by simp; try omega))
      replace ka := keepCell c8 ka
      replace qka := World.block_lt_of_cell? _ _ ka
      replace kb := keepCell c8 kb
      replace kc := keepCell c8 kc
      replace la := keepCell c8 la
      replace qla := World.block_lt_of_cell? _ _ la
      replace lb := keepCell c8 lb
      replace lc := keepCell c8 lc
      replace hB := belowT hB c8
      clear c8 d8
      go_wp2_with fail
      refine (HA.out _).mono ?_
      rintro e w9 ⟨rfl, d9⟩
      have c9 : Below w8.heap.size w8 w9 := Below.trans (by go_grown) (d9.mono (by simp; try omega))
      replace ka := keepCell c9 ka
      replace qka := World.block_lt_of_cell? _ _ ka
      replace kb := keepCell c9 kb
      replace kc := keepCell c9 kc
      replace la := keepCell c9 la
      replace qla := World.block_lt_of_cell? _ _ la
      replace lb := keepCell c9 lb
      replace lc := keepCell c9 lc
      replace hB := belowT hB c9
      clear c9 d9
      go_wp2_with fail
      refine (iawake _ ?_).mono ?_
      · exact hT0.out.below (belowT hB (by go_grown))
      rintro e w10 ⟨rfl, d10⟩
      have c10 : Below w9.heap.size w9 w10 := Below.trans (by go_grown) (d10.mono (by simp; try omega))
      replace ka := keepCell c10 ka
      replace qka := World.block_lt_of_cell? _ _ ka
      replace kb := keepCell c10 kb
      replace kc := keepCell c10 kc
      replace la := keepCell c10 la
      replace qla := World.block_lt_of_cell? _ _ la
      replace lb := keepCell c10 lb
      replace lc := keepCell c10 lc
      replace hB := belowT hB c10
      clear c10 d10
      go_wp2
      go_ret
      exact ⟨by first | rfl | simp, hB⟩
  · skip
    generalize wordOf s P Q = W1 at *
    generalize wordOf t U V = W2 at *
    rcases hab with ⟨e1, rfl⟩ | ⟨e1, e2⟩
    · skip
      go_wp2_with fail
      refine (TA.out _ ?_).mono ?_
      · exact hT0.out.2.below (belowT hB (by go_grown))
      rintro e w5 ⟨rfl, d5⟩
      have c5 : Below w4.heap.size w4 w5 := Below.trans (by go_grown) (d5.mono (by simp; try omega))
      replace ka := keepCell c5 ka
      replace qka := World.block_lt_of_cell? _ _ ka
      replace kb := keepCell c5 kb
      replace kc := keepCell c5 kc
      have la : w5.cell? ⟨w4.heap.size, 0, none⟩ = some (.int .i64 (t : Int)) := keepCell d5 (by go_simp)
      have qla := World.block_lt_of_cell? _ _ la
      have lb : w5.cell? ⟨w4.heap.size, 1, none⟩ = some (.int .i64 U) := keepCell d5 (by go_simp)
      have lc : w5.cell? ⟨w4.heap.size, 2, none⟩ = some (.int .i64 V) := keepCell d5 (by go_simp)
      replace hB := belowT hB c5
      clear c5 d5
      go_wp2_with fail
      refine (TB.out _ ?_).mono ?_
      · exact hT0.out.2.below (belowT hB (by go_grown))
      rintro e w6 ⟨rfl, d6⟩
      have c6 : Below w5.heap.size w5 w6 := Below.trans (by go_grown) (d6.mono (by simp; try omega))
      replace ka := keepCell c6 ka
      replace qka := World.block_lt_of_cell? _ _ ka
      replace kb := keepCell c6 kb
      replace kc := keepCell c6 kc
      replace la := keepCell c6 la
      replace qla := World.block_lt_of_cell? _ _ la
      replace lb := keepCell c6 lb
      replace lc := keepCell c6 lc
      replace hB := belowT hB c6
      clear c6 d6
      go_wp2_with fail
      refine (TA.out _ ?_).mono ?_
      · exact hT0.out.2.below (belowT hB (by go_grown))
      rintro e w7 ⟨rfl, d7⟩
      have c7 : Below w6.heap.size w6 w7 := Below.trans (by go_grown) (d7.mono (by simp; try omega))
      replace ka := keepCell c7 ka
      replace qka := World.block_lt_of_cell? _ _ ka
      replace kb := keepCell c7 kb
      replace kc := keepCell c7 kc
      replace la := keepCell c7 la
      replace qla := World.block_lt_of_cell? _ _ la
      replace lb := keepCell c7 lb
      replace lc := keepCell c7 lc
      replace hB := belowT hB c7
      clear c7 d7
      go_wp2_with fail
      refine (TA.out _ ?_).mono ?_
      · exact hT0.out.2.below (belowT hB (by go_grown))
      rintro e w8 ⟨rfl, d8⟩
      have c8 : Below w7.heap.size w7 w8 := Below.trans (by go_grown) (d8.mono (by simp; try omega))
      replace ka := keepCell c8 ka
      replace qka := World.block_lt_of_cell? _ _ ka
      replace kb := keepCell c8 kb
      replace kc := keepCell c8 kc
      replace la := keepCell c8 la
      replace qla := World.block_lt_of_cell? _ _ la
      replace lb := keepCell c8 lb
      replace lc := keepCell c8 lc
      replace hB := belowT hB c8
      clear c8 d8
      go_wp2_with fail
      refine (HA.out _).mono ?_
      rintro e w9 ⟨rfl, d9⟩
      have c9 : Below w8.heap.size w8 w9 := Below.trans (by go_grown) (d9.mono (by simp; try omega))
      replace ka := keepCell c9 ka
      replace qka := World.block_lt_of_cell? _ _ ka
      replace kb := keepCell c9 kb
      replace kc := keepCell c9 kc
      replace la := keepCell c9 la
      replace qla := World.block_lt_of_cell? _ _ la
      replace lb := keepCell c9 lb
      replace lc := keepCell c9 lc
      replace hB := belowT hB c9
      clear c9 d9
      go_wp2_with fail
      refine (iawake _ ?_).mono ?_
      · exact hT0.out.below (belowT hB (by go_grown))
      rintro e w10 ⟨rfl, d10⟩
      have c10 : Below w9.heap.size w9 w10 := Below.trans (by go_grown) (d10.mono (by simp; try omega))
      replace ka := keepCell c10 ka
      replace qka := World.block_lt_of_cell? _ _ ka
      replace kb := keepCell c10 kb
      replace kc := keepCell c10 kc
      replace la := keepCell c10 la
      replace qla := World.block_lt_of_cell? _ _ la
      replace lb := keepCell c10 lb
      replace lc := keepCell c10 lc
      replace hB := belowT hB c10
      clear c10 d10
      go_wp2
      go_ret
      exact ⟨by first | rfl | simp, hB⟩
    · skip
      have e3 : (ta.toList == tb.toList) = false := toList_ne e2
      go_wp2_with fail
      refine (TA.out _ ?_).mono ?_
      · exact hT0.out.2.below (belowT hB (by go_grown))
      rintro e w5 ⟨rfl, d5⟩
      have c5 : Below w4.heap.size w4 w5 := Below.trans (by go_grown) (d5.mono (by simp; try omega))
      replace ka := keepCell c5 ka
      replace qka := World.block_lt_of_cell? _ _ ka
      replace kb := keepCell c5 kb
      replace kc := keepCell c5 kc
      have la : w5.cell? ⟨w4.heap.size, 0, none⟩ = some (.int .i64 (t : Int)) := keepCell d5 (by go_simp)
      have qla := World.block_lt_of_cell? _ _ la
      have lb : w5.cell? ⟨w4.heap.size, 1, none⟩ = some (.int .i64 U) := keepCell d5 (by go_simp)
      have lc : w5.cell? ⟨w4.heap.size, 2, none⟩ = some (.int .i64 V) := keepCell d5 (by go_simp)
      replace hB := belowT hB c5
      clear c5 d5
      go_wp2_with fail
      refine (TB.out _ ?_).mono ?_
      · exact hT0.out.2.below (belowT hB (by go_grown))
      rintro e w6 ⟨rfl, d6⟩
      have c6 : Below w5.heap.size w5 w6 := Below.trans (by go_grown) (d6.mono (by simp; try omega))
      replace ka := keepCell c6 ka
      replace qka := World.block_lt_of_cell? _ _ ka
      replace kb := keepCell c6 kb
      replace kc := keepCell c6 kc
      replace la := keepCell c6 la
      replace qla := World.block_lt_of_cell? _ _ la
      replace lb := keepCell c6 lb
      replace lc := keepCell c6 lc
      replace hB := belowT hB c6
      clear c6 d6
      go_wp2_with fail
      refine (TA.out _ ?_).mono ?_
      · exact hT0.out.2.below (belowT hB (by go_grown))
      rintro e w7 ⟨rfl, d7⟩
      have c7 : Below w6.heap.size w6 w7 := Below.trans (by go_grown) (d7.mono (by simp; try omega))
      replace ka := keepCell c7 ka
      replace qka := World.block_lt_of_cell? _ _ ka
      replace kb := keepCell c7 kb
      replace kc := keepCell c7 kc
      replace la := keepCell c7 la
      replace qla := World.block_lt_of_cell? _ _ la
      replace lb := keepCell c7 lb
      replace lc := keepCell c7 lc
      replace hB := belowT hB c7
      clear c7 d7
      go_wp2_with fail
      refine (TA.out _ ?_).mono ?_
      · exact hT0.out.2.below (belowT hB (by go_grown))
      rintro e w8 ⟨rfl, d8⟩
      have c8 : Below w7.heap.size w7 w8 := Below.trans (by go_grown) (d8.mono (by simp; try omega))
      replace ka := keepCell c8 ka
      replace qka := World.block_lt_of_cell? _ _ ka
      replace kb := keepCell c8 kb
      replace kc := keepCell c8 kc
      replace la := keepCell c8 la
      replace qla := World.block_lt_of_cell? _ _ la
      replace lb := keepCell c8 lb
      replace lc := keepCell c8 lc
      replace hB := belowT hB c8
      clear c8 d8
      go_wp2_with fail
      refine (HA.out _).mono ?_
      rintro e w9 ⟨rfl, d9⟩
      have c9 : Below w8.heap.size w8 w9 := Below.trans (by go_grown) (d9.mono (by simp; try omega))
      replace ka := keepCell c9 ka
      replace qka := World.block_lt_of_cell? _ _ ka
      replace kb := keepCell c9 kb
      replace kc := keepCell c9 kc
      replace la := keepCell c9 la
      replace qla := World.block_lt_of_cell? _ _ la
      replace lb := keepCell c9 lb
      replace lc := keepCell c9 lc
      replace hB := belowT hB c9
      clear c9 d9
      go_wp2_with fail
      refine (iawake _ ?_).mono ?_
      · exact hT0.out.below (belowT hB (by go_grown))
      rintro e w10 ⟨rfl, d10⟩
      have c10 : Below w9.heap.size w9 w10 := Below.trans (by go_grown) (d10.mono (by simp; try omega))
      replace ka := keepCell c10 ka
      replace qka := World.block_lt_of_cell? _ _ ka
      replace kb := keepCell c10 kb
      replace kc := keepCell c10 kc
      replace la := keepCell c10 la
      replace qla := World.block_lt_of_cell? _ _ la
      replace lb := keepCell c10 lb
      replace lc := keepCell c10 lc
      replace hB := belowT hB c10
      clear c10 d10
      go_wp2
      go_ret
      exact ⟨by first | rfl | simp, hB⟩
end Go.Proofs.YtlipbdiijjfheaaGreatDoor
