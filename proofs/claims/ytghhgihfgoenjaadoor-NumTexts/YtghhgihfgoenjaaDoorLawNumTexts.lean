/-
  The law NumTexts answers true for any text of at most 2^47 bytes and any number of 64 bits, in whatever memory where the library's table of powers of ten and its two errors hold what their initialisers lay: the walk.
-/
import Derived.Test.YtghhgihfgoenjaaDoorRefParse
import Derived.Lib.ItoaLen
import Derived.SizedLaws
namespace Go.Proofs.YtghhgihfgoenjaaDoor
open Go.RowKit Go.Shelf

theorem numeral_size (n : Int) (h0 : -9223372036854775808 ≤ n) (h1 : n ≤ 9223372036854775807) : (numeral n).size ≤ 281474976710656 := by
  have := Lib.itoa_length_le n h0 h1
  rw [size_list, numeral_list]
  omega

set_option maxRecDepth 100000 in
set_option maxHeartbeats 1000000 in
theorem texts_yes (v : Int) (v1 : -9223372036854775808 ≤ v) (v2 : v ≤ 9223372036854775807) (n : Int) (n1 : -9223372036854775808 ≤ n) (n2 : n ≤ 9223372036854775807) (w : World) (htab : Tab w) :
    Calls Tryd.prog 7 #[.string (numeral v), .int .i64 n] w fun e w' => e = .returned (.bool true) ∧ Below w.heap.size w w' := by
  have hv := numeral_size v v1 v2
  have hn := numeral_size n n1 n2
  have CV : Hid (Canon (numeral v).data.toList v) := ⟨⟨v1, v2⟩, (numeral_list v).symm⟩
  have CN : Hid (Canon (numeral n).data.toList n) := ⟨⟨n1, n2⟩, (numeral_list n).symm⟩
  go_enter Tryd.func7, Tryd.ntmps7
  go_wp2_with fail
  refine (parse_yes (numeral v) v hv CV.out _ htab).mono ?_
  rintro e w1 ⟨rfl, c1⟩
  go_wp2_with fail
  refine (refparse_yes (numeral v) hv v CV.out _).mono ?_
  rintro e w2 ⟨rfl, c2⟩
  replace c2 := belowT c1 c2
  clear c1
  go_wp2_with fail
  refine (text_numeral n n1 n2 _ (htab.below c2)).mono ?_
  rintro e w3 ⟨rfl, c3⟩
  replace c3 := belowT c2 c3
  clear c2
  go_wp2_with fail
  refine (parse_yes (numeral n) n hn CN.out _ (htab.below c3)).mono ?_
  rintro e w4 ⟨rfl, c4⟩
  replace c4 := belowT c3 c4
  clear c3
  go_wp2_with fail
  refine (reftext_any n n1 n2 _).mono ?_
  rintro e w5 ⟨rfl, c5⟩
  replace c5 := belowT c4 c5
  clear c4
  go_wp2_with fail
  refine (text_numeral v v1 v2 _ (htab.below c5)).mono ?_
  rintro e w6 ⟨rfl, c6⟩
  replace c6 := belowT c5 c6
  clear c5
  go_wp2_with fail
  refine (awake _ (htab.below c6)).mono ?_
  rintro e w7 ⟨rfl, c7⟩
  replace c7 := belowT c6 c7
  clear c6
  go_wp2
  go_ret
  exact ⟨rfl, c7⟩

set_option maxRecDepth 100000 in
set_option maxHeartbeats 1000000 in
theorem texts_no (s : ByteArray) (hs : s.size ≤ 281474976710656) (h : ∀ v, ¬ Canon s.data.toList v) (n : Int) (n1 : -9223372036854775808 ≤ n) (n2 : n ≤ 9223372036854775807) (w : World) (htab : Tab w) (hE : Errs w) :
    Calls Tryd.prog 7 #[.string s, .int .i64 n] w fun e w' => e = .returned (.bool true) ∧ Below w.heap.size w w' := by
  have hn := numeral_size n n1 n2
  have CS : Hid (∀ v, ¬ Canon s.data.toList v) := h
  clear h
  have CN : Hid (Canon (numeral n).data.toList n) := ⟨⟨n1, n2⟩, (numeral_list n).symm⟩
  go_enter Tryd.func7, Tryd.ntmps7
  go_wp2_with fail
  refine (parse_no s hs CS.out _ htab hE).mono ?_
  rintro e w1 ⟨rfl, c1⟩
  go_wp2_with fail
  refine (refparse_no s hs CS.out _).mono ?_
  rintro e w2 ⟨rfl, c2⟩
  replace c2 := belowT c1 c2
  clear c1
  go_wp2_with fail
  refine (text_numeral n n1 n2 _ (htab.below c2)).mono ?_
  rintro e w3 ⟨rfl, c3⟩
  replace c3 := belowT c2 c3
  clear c2
  go_wp2_with fail
  refine (parse_yes (numeral n) n hn CN.out _ (htab.below c3)).mono ?_
  rintro e w4 ⟨rfl, c4⟩
  replace c4 := belowT c3 c4
  clear c3
  go_wp2_with fail
  refine (reftext_any n n1 n2 _).mono ?_
  rintro e w5 ⟨rfl, c5⟩
  replace c5 := belowT c4 c5
  clear c4
  go_wp2_with fail
  refine (awake _ (htab.below c5)).mono ?_
  rintro e w6 ⟨rfl, c6⟩
  replace c6 := belowT c5 c6
  clear c5
  go_wp2
  go_ret
  exact ⟨rfl, c6⟩

theorem texts_law (s : ByteArray) (_hs : s.size ≤ maxLen) (hr : s.data.toList.length ≤ reachBytes) (n : Int) (n1 : -9223372036854775808 ≤ n) (n2 : n ≤ 9223372036854775807) (w : World) (hT : Tab w ∧ Errs w) :
    Calls Tryd.prog 7 #[.string s, .int .i64 n] w fun e w' => e = .returned (.bool true) ∧ Below w.heap.size w w' := by
  have hs : s.size ≤ 281474976710656 := by
    have h2 := reachBytes_lt
    have e3 : (2 : Nat) ^ 47 = 140737488355328 := by decide
    rw [size_list]
    omega
  by_cases h : ∃ v, Canon s.data.toList v
  · obtain ⟨v, hv⟩ := h
    obtain rfl := numeral_of hv.2
    exact texts_yes v hv.1.1 hv.1.2 n n1 n2 w hT.1
  · exact texts_no s hs (fun v hv => h ⟨v, hv⟩) n n1 n2 w hT.1 hT.2
end Go.Proofs.YtghhgihfgoenjaaDoor
