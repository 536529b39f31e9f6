/-
  What the document's own Text tells, for every number of 64 bits, in whatever memory: the number's numeral.
-/
import Derived.Test.YtghhgihfgoenjaaDoorNumParse
namespace Go.Proofs.YtghhgihfgoenjaaDoor
open Go.RowKit Go.Shelf

theorem digit_piece (k : Nat) (h : k < 10) : ((⟨#[48, 49, 50, 51, 52, 53, 54, 55, 56, 57]⟩ : ByteArray).extract k (k + 1)).data.toList = [UInt8.ofNat (48 + k)] := by
  rw [Lib.extract_data]
  have : ∀ i : Fin 10, (([48, 49, 50, 51, 52, 53, 54, 55, 56, 57] : List UInt8).drop i.val).take (i.val + 1 - i.val) = [UInt8.ofNat (48 + i.val)] := by decide
  exact this ⟨k, h⟩
theorem piece_list (k : Nat) (h : k < 10) (S : ByteArray) : ((⟨#[48, 49, 50, 51, 52, 53, 54, 55, 56, 57]⟩ : ByteArray).extract k (k + 1) ++ S).data.toList = UInt8.ofNat (48 + k) :: S.data.toList := by
  rw [ByteArray.data_append, Array.toList_append, digit_piece k h]; rfl
theorem size_list (s : ByteArray) : s.size = s.data.toList.length := Lib.size_eq s
theorem ret_string {a b : ByteArray} (h : a = b) : Ending.returned (.string a) = .returned (.string b) := by rw [h]
theorem text_step {N U : Nat} {S : ByteArray} (h : Lib.decDigits N = Lib.decDigits U ++ S.data.toList) (hU : 9 < U) :
    Lib.decDigits N = Lib.decDigits (U / 10) ++ ((⟨#[48, 49, 50, 51, 52, 53, 54, 55, 56, 57]⟩ : ByteArray).extract (U % 10) (U % 10 + 1) ++ S).data.toList := by
  rw [h, digits_big (by omega), piece_list _ (by omega), List.append_assoc]; rfl
theorem text_last {N U : Nat} {S : ByteArray} (h : Lib.decDigits N = Lib.decDigits U ++ S.data.toList) (hU : ¬ 9 < U) :
    Lib.decDigits N = ((⟨#[48, 49, 50, 51, 52, 53, 54, 55, 56, 57]⟩ : ByteArray).extract U (U + 1) ++ S).data.toList := by
  rw [h, digits_small (by omega), piece_list _ (by omega)]; rfl
theorem list_ext {a b : ByteArray} (h : a.data.toList = b.data.toList) : a = b := by
  apply ByteArray.ext
  exact Array.toList_inj.1 h

set_option maxHeartbeats 400000 in
theorem reftext_up (n : Int) (h0 : 0 ≤ n) (h1 : n ≤ 9223372036854775807) (w : World) :
    Calls Tryd.prog 28 #[.int .i64 n] w fun e w' => e = .returned (.string (numeral n)) ∧ Below w.heap.size w w' := by
  obtain ⟨N, rfl⟩ := Int.eq_ofNat_of_zero_le h0
  have HL : Hid ((Lib.decDigits N).length ≤ 19) := digits_len N 19 (by omega) (by omega)
  have HI : Hid (Lib.itoa (N : Int) = Lib.decDigits N) := by show Lib.itoa (N : Int) = _; unfold Lib.itoa; rw [if_neg (by omega), Int.toNat_natCast]
  go_enter Tryd.func28, Tryd.ntmps28
  go_wp2
  go_loop [5, 3] (fun s u => ∃ (U : Nat) (S : ByteArray), U ≤ N ∧ u = .int .u64 (U : Int) ∧ s = .string S ∧ S.size ≤ 19 ∧ Hid (Lib.decDigits N = Lib.decDigits U ++ S.data.toList)) (fun _ u => (intOf u).toNat)
  case atStart => exact ⟨N, ByteArray.empty, Nat.le_refl _, rfl, rfl, by simp, by show Lib.decDigits N = Lib.decDigits N ++ []; simp⟩
  case round =>
    obtain ⟨U, S, hU, rfl, rfl, hS, HD⟩ := hrel
    by_cases hlt : 9 < U
    · go_wp2
      go_round
      case rel =>
        have hs := text_step HD.out hlt
        refine ⟨U / 10, _, by omega, by simp, rfl, ?_, hs⟩
        have hl := HL.out
        rw [hs, List.length_append, ← size_list] at hl
        omega
      case measure => simp [intOf]; omega
    · go_wp2
      go_ret
      refine ⟨ret_string (list_ext ?_), Below.refl _ _⟩
      rw [numeral_list, HI.out]
      have hs := text_last HD.out hlt
      rw [hs]
      simp only [ByteArray.data_append, Array.toList_append]
      rfl

set_option maxHeartbeats 400000 in
theorem reftext_down (n : Int) (h0 : n < 0) (h1 : -9223372036854775808 ≤ n) (w : World) :
    Calls Tryd.prog 28 #[.int .i64 n] w fun e w' => e = .returned (.string (numeral n)) ∧ Below w.heap.size w w' := by
  obtain ⟨N, hN, hx⟩ : ∃ N : Nat, n.natAbs = N ∧ IntKind.u64.wrap (-(IntKind.u64.wrap n)) = (N : Int) := ⟨_, rfl, by rw [IntKind.wrap_u64, IntKind.wrap_u64]; omega⟩
  have hN19 : N ≤ 9223372036854775808 := by omega
  have HL : Hid ((Lib.decDigits N).length ≤ 19) := digits_len N 19 (by omega) (by omega)
  have HI : Hid (Lib.itoa n = 45 :: Lib.decDigits N) := by show Lib.itoa n = _; unfold Lib.itoa; rw [if_pos h0, hN]
  clear hN
  go_enter Tryd.func28, Tryd.ntmps28
  go_wp2
  go_loop [5, 3] (fun s u => ∃ (U : Nat) (S : ByteArray), U ≤ N ∧ u = .int .u64 (U : Int) ∧ s = .string S ∧ S.size ≤ 19 ∧ Hid (Lib.decDigits N = Lib.decDigits U ++ S.data.toList)) (fun _ u => (intOf u).toNat)
  case atStart => exact ⟨N, ByteArray.empty, Nat.le_refl _, rfl, rfl, by simp, by show Lib.decDigits N = Lib.decDigits N ++ []; simp⟩
  case round =>
    obtain ⟨U, S, hU, rfl, rfl, hS, HD⟩ := hrel
    by_cases hlt : 9 < U
    · go_wp2
      go_round
      case rel =>
        have hs := text_step HD.out hlt
        refine ⟨U / 10, _, by omega, by simp, rfl, ?_, hs⟩
        have hl := HL.out
        rw [hs, List.length_append, ← size_list] at hl
        omega
      case measure => simp [intOf]; omega
    · go_wp2
      go_ret
      refine ⟨ret_string (list_ext ?_), Below.refl _ _⟩
      rw [numeral_list, HI.out]
      have hs := text_last HD.out hlt
      rw [hs]
      simp only [ByteArray.data_append, Array.toList_append]
      rfl

theorem reftext_any (n : Int) (h0 : -9223372036854775808 ≤ n) (h1 : n ≤ 9223372036854775807) (w : World) :
    Calls Tryd.prog 28 #[.int .i64 n] w fun e w' => e = .returned (.string (numeral n)) ∧ Below w.heap.size w w' := by
  by_cases h : 0 ≤ n
  · exact reftext_up n h h1 w
  · exact reftext_down n (by omega) h0 w
end Go.Proofs.YtghhgihfgoenjaaDoor
