/-
  A number of 64 bits with a sign, taken bit by bit with 2^j - 1, is its remainder by 2^j: for any number and any j up to 62.
-/
import Derived.Test.YtlipbdiijjfheaaGreatDoorPlain
import Derived.Laws.BitsAllLaws
namespace Go.Proofs.YtlipbdiijjfheaaGreatDoor
open Go.RowKit

theorem i64_mask (n : Int) (j : Nat) (hj : j < 63) : bits .and .i64 n ((2 ^ j - 1 : Nat) : Int) = n % ((2 ^ j : Nat) : Int) := by
  have hp : (2 : Nat) ^ j ∣ 2 ^ 64 := Nat.pow_dvd_pow 2 (by omega)
  have hle : (2 : Nat) ^ j ≤ 2 ^ 62 := Nat.pow_le_pow_right (by omega) (by omega)
  have hpos : 0 < (2 : Nat) ^ j := Nat.pow_pos (by omega)
  have hm : (BitVec.ofInt 64 ((2 ^ j - 1 : Nat) : Int)).toNat = 2 ^ j - 1 := ofInt_u64 _ (by omega)
  have hn : ((BitVec.ofInt 64 n).toNat : Int) = n % 18446744073709551616 := by
    rw [BitVec.toNat_ofInt]
    have : 0 ≤ n % 18446744073709551616 := Int.emod_nonneg _ (by omega)
    show ((n % ((2 ^ 64 : Nat) : Int)).toNat : Int) = _
    have e : ((2 ^ 64 : Nat) : Int) = 18446744073709551616 := by decide
    rw [e]
    exact Int.toNat_of_nonneg this
  show IntKind.i64.wrap ((BitVec.ofInt 64 n &&& BitVec.ofInt 64 ((2 ^ j - 1 : Nat) : Int)).toNat : Int) = _
  rw [BitVec.toNat_and, hm, Nat.and_two_pow_sub_one_eq_mod]
  have e3 : (((BitVec.ofInt 64 n).toNat % 2 ^ j : Nat) : Int) = n % ((2 ^ j : Nat) : Int) := by
    rw [Int.natCast_emod, hn]
    obtain ⟨c, hc⟩ := hp
    have e : (18446744073709551616 : Int) = ((2 ^ j : Nat) : Int) * (c : Int) := by
      rw [← Int.natCast_mul, ← hc]; decide
    exact Int.emod_emod_of_dvd n ⟨_, e⟩
  rw [e3, IntWalk.i64_left]
  have h1 := Int.emod_nonneg n (b := ((2 ^ j : Nat) : Int)) (by omega)
  have h2 := Int.emod_lt_of_pos n (b := ((2 ^ j : Nat) : Int)) (by omega)
  exact wrap_fits ⟨by omega, by omega⟩

theorem mask16 (n : Int) : bits .and .i64 n 65535 = n % 65536 := by
  have := i64_mask n 16 (by omega)
  simpa using this
theorem mask5 (n : Int) : bits .and .i64 n 31 = n % 32 := by
  have := i64_mask n 5 (by omega)
  simpa using this
theorem mask10 (n : Int) : bits .and .i64 n 1023 = n % 1024 := by
  have := i64_mask n 10 (by omega)
  simpa using this
theorem mask30 (n : Int) : bits .and .i64 n 1073741823 = n % 1073741824 := by
  have := i64_mask n 30 (by omega)
  simpa using this
theorem mask3 (n : Int) : bits .and .i64 n 7 = n % 8 := by
  have := i64_mask n 3 (by omega)
  simpa using this
/-- A remainder by truncation lies near nought. -/
theorem tmod_box (n m : Int) (hm : 0 < m) : -m < n.tmod m ∧ n.tmod m < m := by
  have h : (n.tmod m).natAbs = n.natAbs % m.natAbs := Int.natAbs_tmod n m
  have h2 := Nat.mod_lt n.natAbs (show 0 < m.natAbs by omega)
  omega
end Go.Proofs.YtlipbdiijjfheaaGreatDoor
