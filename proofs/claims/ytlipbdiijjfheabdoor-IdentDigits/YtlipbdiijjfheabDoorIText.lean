/-
  What package ident's Text tells: a word's sixteen digits in base 16; in whatever memory where the library's table of places holds what its text lays.
-/
import Derived.Test.YtlipbdiijjfheabDoorFHex
import Derived.Test.YtlipbdiijjfheabDoorMul64
namespace Go.Proofs.YtlipbdiijjfheabDoor
open Go.RowKit

/-- c noughts. -/
def noughts (c : Nat) : ByteArray := ⟨(List.replicate c (48 : UInt8)).toArray⟩
set_option maxHeartbeats 1000000 in
theorem hpin_any (S : ByteArray) (v : Bool) (hs : decide ((1 : Int) ≤ (S.size : Int)) = true) (hv : ((S.extract 0 1).toList == [48]) = v) (w : World) :
    Calls Tryd.prog 86 #[.string S, .string ⟨#[48]⟩] w fun e w' => e = .returned (.bool v) ∧ w' = w := by
  have h1 : (1 : Int) ≤ (S.size : Int) := of_decide_eq_true hs
  have h2 : 1 ≤ S.size := by omega
  go_enter Tryd.func86, Tryd.ntmps86
  go_wp2
  go_ret
  exact ⟨rfl, rfl⟩
set_option maxHeartbeats 1000000 in
theorem hp_any (S : ByteArray) (v : Bool) (hs : decide ((1 : Int) ≤ (S.size : Int)) = true) (hv : ((S.extract 0 1).toList == [48]) = v) (w : World) :
    Calls Tryd.prog 67 #[.string S, .string ⟨#[48]⟩] w fun e w' => e = .returned (.bool v) ∧ w' = w := by
  have HP : Hid (∀ w, Calls Tryd.prog 86 #[.string S, .string ⟨#[48]⟩] w fun e w' => e = .returned (.bool v) ∧ w' = w) := hpin_any S v hs hv
  clear hs hv
  go_enter Tryd.func67, Tryd.ntmps67
  go_wp2_with (go_at_call 86; refine (HP.out _).mono ?_; rintro e w' ⟨rfl, rfl⟩)
  go_ret
  exact ⟨rfl, rfl⟩
set_option maxHeartbeats 1000000 in
theorem mul_one (c : Nat) (hc : c ≤ 15) (w : World) :
    Calls Tryd.prog 66 #[.int .u64 1, .int .u64 (c : Int)] w fun e w' => e = .returned (.tuple #[.int .u64 0, .int .u64 (c : Int)]) ∧ w' = w := by
  have MU : Hid (∀ w, Calls Tryd.prog 72 #[.int .u64 1, .int .u64 (c : Int)] w fun e w' => e = .returned (.tuple #[.int .u64 0, .int .u64 (c : Int)]) ∧ w' = w) := by
    intro w
    have h := mul64_any 1 (c : Int) (by omega) (by omega) (by omega) (by omega) w
    rw [show high64 (1 * (c : Int)) = 0 by unfold high64; omega, show low64 (1 * (c : Int)) = c by unfold low64; omega] at h
    exact h
  go_enter Tryd.func66, Tryd.ntmps66
  go_wp2_with (go_at_call 72; refine (MU.out _).mono ?_; rintro e w' ⟨rfl, rfl⟩)
  go_ret2
  exact ⟨rfl, rfl⟩
set_option maxHeartbeats 4000000 in
set_option maxRecDepth 100000 in
theorem repeat_many (c : Nat) (h2 : 2 ≤ c) (h15 : c ≤ 15) (w : World) :
    Calls Tryd.prog 44 #[.string ⟨#[48]⟩, .int .i64 (c : Int)] w fun e w' => e = .returned (.string (noughts c)) ∧ Below w.heap.size w w' := by
  have MU : Hid (∀ w, Calls Tryd.prog 66 #[.int .u64 1, .int .u64 (c : Int)] w fun e w' => e = .returned (.tuple #[.int .u64 0, .int .u64 (c : Int)]) ∧ w' = w) := mul_one c h15
  have c0 : ((c : Int) == 0) = false := by simp; omega
  have c1 : ((c : Int) == 1) = false := by simp; omega
  have c2 : (c : Int) ≤ 128 := by omega
  have c3 : (0 : Int) ≤ (c : Int) := by omega
  have c4 : (2 : Int) ≤ (c : Int) ∧ (c : Int) ≤ 15 := by omega
  go_enter Tryd.func44, Tryd.ntmps44
  go_wp2_with (first
    | (go_at_call 66; refine (MU.out _).mono ?_; rintro e w' ⟨rfl, rfl⟩)
    | (go_at_call 67; refine (hp_any _ false (by decide +kernel) (by decide +kernel) _).mono ?_; rintro e w' ⟨rfl, rfl⟩)
    | (go_at_call 67; refine (hp_any _ true (by decide +kernel) (by decide +kernel) _).mono ?_; rintro e w' ⟨rfl, rfl⟩))
  go_ret
  refine ⟨?_, Below.refl _ _⟩
  show Ending.returned (Value.string (ByteArray.extract _ 0 c)) = Ending.returned (Value.string (noughts c))
  refine congrArg (fun b => Ending.returned (Value.string b)) ?_
  have hc : c = 2 ∨ c = 3 ∨ c = 4 ∨ c = 5 ∨ c = 6 ∨ c = 7 ∨ c = 8 ∨ c = 9 ∨ c = 10 ∨ c = 11 ∨ c = 12 ∨ c = 13 ∨ c = 14 ∨ c = 15 := by omega
  clear c0 c1 c2 c3 c4 h2 h15 MU
  rcases hc with rfl | rfl | rfl | rfl | rfl | rfl | rfl | rfl | rfl | rfl | rfl | rfl | rfl | rfl <;> decide +kernel
set_option maxHeartbeats 1000000 in
set_option maxRecDepth 100000 in
theorem repeat_none (w : World) :
    Calls Tryd.prog 44 #[.string ⟨#[48]⟩, .int .i64 0] w fun e w' => e = .returned (.string (noughts 0)) ∧ Below w.heap.size w w' := by
  go_enter Tryd.func44, Tryd.ntmps44
  go_wp2
  go_ret
  exact ⟨rfl, Below.refl _ _⟩
set_option maxHeartbeats 1000000 in
set_option maxRecDepth 100000 in
theorem repeat_one (w : World) :
    Calls Tryd.prog 44 #[.string ⟨#[48]⟩, .int .i64 1] w fun e w' => e = .returned (.string (noughts 1)) ∧ Below w.heap.size w w' := by
  go_enter Tryd.func44, Tryd.ntmps44
  go_wp2
  go_ret
  exact ⟨rfl, Below.refl _ _⟩
theorem repeat_any (c : Nat) (h : c ≤ 15) (w : World) :
    Calls Tryd.prog 44 #[.string ⟨#[48]⟩, .int .i64 (c : Int)] w fun e w' => e = .returned (.string (noughts c)) ∧ Below w.heap.size w w' := by
  rcases (show c = 0 ∨ c = 1 ∨ 2 ≤ c by omega) with rfl | rfl | h2
  · exact repeat_none w
  · exact repeat_one w
  · exact repeat_many c h2 h w
theorem noughts_size (c : Nat) : (noughts c).size = c := by simp [noughts, ByteArray.size]
/-- The sixteen digits. -/
def text16 (u : Nat) : ByteArray := ⟨(hexF 16 u).toArray⟩
theorem text_pad (n u : Nat) (h1 : n ≤ 16) (h2 : u < 16 ^ n) : noughts (16 - n) ++ (⟨(hexF n u).toArray⟩ : ByteArray) = text16 u := by
  have hl : List.replicate (16 - n) (48 : UInt8) ++ hexF n u = hexF 16 u := by
    apply List.ext_getElem
    · rw [List.length_append, List.length_replicate, hexF_len, hexF_len]; omega
    · intro i h3 h4
      rw [hexF_at, List.getElem_append]
      rw [hexF_len] at h4
      split
      · rename_i hi
        rw [List.length_replicate] at hi
        rw [List.getElem_replicate]
        unfold hexAt
        have hle : (16 : Nat) ^ n ≤ 16 ^ (16 - 1 - i) := Nat.pow_le_pow_right (by omega) (by omega)
        rw [Nat.div_eq_of_lt (by omega)]
        rfl
      · rename_i hi
        rw [List.length_replicate] at hi
        rw [hexF_at, List.length_replicate, show n - 1 - (i - (16 - n)) = 16 - 1 - i by omega]
  unfold noughts text16
  apply ByteArray.ext
  rw [ByteArray.data_append]
  show (List.replicate (16 - n) (48 : UInt8)).toArray ++ (hexF n u).toArray = (hexF 16 u).toArray
  rw [← hl]
  simp
set_option maxHeartbeats 2000000 in
/-- TEXT: sixteen digits. -/
theorem itext (u : Nat) (hu : u < 18446744073709551616) (w : World) (hD : DeB w) :
    Calls Tryd.prog 20 #[.int .u64 (u : Int)] w fun e w' => e = .returned (.string (text16 u)) ∧ Below w.heap.size w w' := by
  have FH := fun w => fhex u hu w
  replace FH : Hid _ := FH
  have hD0 : Hid (DeB w) := hD
  clear hD
  go_enter Tryd.func20, Tryd.ntmps20
  have RP : Hid (∀ n : Nat, 1 ≤ n → n ≤ 16 → ∀ w, Calls Tryd.prog 44 #[.string ⟨#[48]⟩, .int .i64 (16 - (n : Int))] w fun e w' => e = .returned (.string (noughts (16 - n))) ∧ Below w.heap.size w w') := by
    intro n n1 n2 w
    have h := repeat_any (16 - n) (by omega) w
    rwa [show (((16 - n : Nat)) : Int) = 16 - (n : Int) by omega] at h
  go_wp2_with (first
    | (go_at_call 43; refine (FH.out _ hD0.out).mono ?_; rintro e w1 ⟨⟨n, n1, n2, n3, rfl⟩, hb1⟩; have hl := hexF_len n u; have n4 : (n : Int) ≤ 16 := (by omega); have n5 : (1 : Int) ≤ (n : Int) := (by omega); have n6 : ¬ 9223372036854775807 < (noughts (16 - n)).size + n := (by rw [noughts_size]; omega))
    | (go_at_call 44; refine (RP.out n n1 n2 _).mono ?_; rintro e w2 ⟨rfl, hb2⟩))
  go_ret
  refine ⟨?_, belowT hb1 hb2⟩
  rw [← text_pad n u n2 n3]
  rfl
end Go.Proofs.YtlipbdiijjfheabDoor
