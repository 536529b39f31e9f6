/-
  The law IdentTexts answers true for every text of at most 2^48 bytes, every word and every three numbers, in whatever memory where the tables hold what their texts lay and the library's one error is there: Parse reads what Text writes, and nothing else.
-/
import Derived.Test.YtlipbdiijjfheaaGreatDoorRWord
import Derived.Test.YtlipbdiijjfheaaGreatDoorIPar
namespace Go.Proofs.YtlipbdiijjfheaaGreatDoor
open Go.RowKit

set_option maxHeartbeats 16000000 in
set_option maxRecDepth 20000 in
theorem identTexts_walk (s : ByteArray) (v x y r : Int) (hs : s.size ≤ 281474976710656) (v1 : 0 ≤ v) (v2 : v ≤ 18446744073709551615) (_x1 : -9223372036854775808 ≤ x) (_x2 : x ≤ 9223372036854775807) (_y1 : -9223372036854775808 ≤ y) (_y2 : y ≤ 9223372036854775807) (_r1 : -9223372036854775808 ≤ r) (_r2 : r ≤ 9223372036854775807) (w : World) (hT : Six w) :
    Calls Tryz.prog 8 #[.string s, .int .u64 v, .int .i64 x, .int .i64 y, .int .i64 r] w fun e w' => e = .returned (.bool true) ∧ Below w.heap.size w w' := by
  obtain ⟨n, rfl⟩ := Int.eq_ofNat_of_zero_le v1
  have hn : n < 18446744073709551616 := by omega
  obtain ⟨V, E, P1, U1⟩ := reads_same s hs
  obtain ⟨V2, E2, P2, U2⟩ := reads_same (text16 n) (by rw [text16_size]; omega)
  have T2 : Hid _ := itext n hn
  have H2 : Hid _ := rhex16 n hn
  obtain ⟨sz, _, S1⟩ := aword_any x y r
  replace S1 : Hid _ := S1
  replace P1 : Hid _ := P1
  replace U1 : Hid _ := U1
  replace P2 : Hid _ := P2
  replace U2 : Hid _ := U2
  have hT0 : Hid (Six w) := hT
  clear hT hs hn v1 v2
  generalize text16 n = t2 at *
  go_enter Tryz.func8, Tryz.ntmps8
  go_wp2_with fail
  refine (P1.out _ ?_).mono ?_
  · exact hT0.out
  rintro e w1 ⟨rfl, d1⟩
  have c1 : Below w.heap.size w w1 := Below.trans (by go_grown) (d1.mono (by simp; try omega))
  have hB := c1
  clear c1 d1
  go_wp2_with fail
  refine (U1.out _).mono ?_
  rintro e w2 ⟨rfl, d2⟩
  have c2 : Below w1.heap.size w1 w2 := Below.trans (by go_grown) (d2.mono (by simp; try omega))
  replace hB := belowT hB c2
  clear c2 d2
  go_wp2_with fail
  refine (S1.out _).mono ?_
  rintro e w3 ⟨⟨P, Q, rfl, hO⟩, d3⟩
  have c3 : Below w2.heap.size w2 w3 := Below.trans (by go_grown) (d3.mono (by simp; try omega))
  replace hB := belowT hB c3
  clear c3 d3
  have hp := (word_parts hO).1
  have hwb := whole_box hp
  generalize wordOf sz P Q = m0 at *
  obtain ⟨m, rfl⟩ := Int.eq_ofNat_of_zero_le (show 0 ≤ m0 by omega)
  have hm : m < 18446744073709551616 := by omega
  have T3 : Hid _ := itext m hm
  have P3 : Hid (∀ w, Six w → Calls Tryz.prog 24 #[.string (text16 m)] w fun e w' => e = .returned (.tuple #[.int .u64 (m : Int), .int .i64 0]) ∧ Below w.heap.size w w') := fun w hS => parse_word m hm true (by simp [hp]) w hS
  clear hp hwb hm hO S1
  generalize text16 m = t3 at *
  go_wp2_with fail
  refine (T3.out _ ?_).mono ?_
  · exact (hT0.out.below hB).1.2
  rintro e w4 ⟨rfl, d4⟩
  have c4 : Below w3.heap.size w3 w4 := Below.trans (by go_grown) (d4.mono (by simp; try omega))
  replace hB := belowT hB c4
  clear c4 d4
  go_wp2_with fail
  refine (P3.out _ ?_).mono ?_
  · exact hT0.out.below (belowT hB (by go_grown))
  rintro e w5 ⟨rfl, d5⟩
  have c5 : Below w4.heap.size w4 w5 := Below.trans (by go_grown) (d5.mono (by simp; try omega))
  replace hB := belowT hB c5
  clear c5 d5
  go_wp2_with fail
  refine (T2.out _ ?_).mono ?_
  · exact (hT0.out.below (belowT hB (by go_grown))).1.2
  rintro e w6 ⟨rfl, d6⟩
  have c6 : Below w5.heap.size w5 w6 := Below.trans (by go_grown) (d6.mono (by simp; try omega))
  replace hB := belowT hB c6
  clear c6 d6
  go_wp2_with fail
  refine (P2.out _ ?_).mono ?_
  · exact hT0.out.below (belowT hB (by go_grown))
  rintro e w7 ⟨rfl, d7⟩
  have c7 : Below w6.heap.size w6 w7 := Below.trans (by go_grown) (d7.mono (by simp; try omega))
  replace hB := belowT hB c7
  clear c7 d7
  go_wp2_with fail
  refine (H2.out _).mono ?_
  rintro e w8 ⟨rfl, d8⟩
  have c8 : Below w7.heap.size w7 w8 := Below.trans (by go_grown) (d8.mono (by simp; try omega))
  replace hB := belowT hB c8
  clear c8 d8
  go_wp2_with fail
  refine (U2.out _).mono ?_
  rintro e w9 ⟨rfl, d9⟩
  have c9 : Below w8.heap.size w8 w9 := Below.trans (by go_grown) (d9.mono (by simp; try omega))
  replace hB := belowT hB c9
  clear c9 d9
  go_wp2_with fail
  refine (T2.out _ ?_).mono ?_
  · exact (hT0.out.below (belowT hB (by go_grown))).1.2
  rintro e w10 ⟨rfl, d10⟩
  have c10 : Below w9.heap.size w9 w10 := Below.trans (by go_grown) (d10.mono (by simp; try omega))
  replace hB := belowT hB c10
  clear c10 d10
  go_wp2_with fail
  refine (H2.out _).mono ?_
  rintro e w11 ⟨rfl, d11⟩
  have c11 : Below w10.heap.size w10 w11 := Below.trans (by go_grown) (d11.mono (by simp; try omega))
  replace hB := belowT hB c11
  clear c11 d11
  go_wp2_with fail
  refine (iawake _ ?_).mono ?_
  · exact (hT0.out.below (belowT hB (by go_grown))).1
  rintro e w12 ⟨rfl, d12⟩
  have c12 : Below w11.heap.size w11 w12 := Below.trans (by go_grown) (d12.mono (by simp; try omega))
  replace hB := belowT hB c12
  clear c12 d12
  go_wp2
  go_ret
  exact ⟨by first | rfl | simp, hB⟩
end Go.Proofs.YtlipbdiijjfheaaGreatDoor
