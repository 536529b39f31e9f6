/-
  Plain facts on powers: what does not fit in 64 bits stays out, and how a power is made of its halves; for any number and any exponent.
-/
import Derived.Test.YtlipbdiijjfheaaGreatDoorPlain
import Derived.Lib.ItoaNum
namespace Go.Proofs.YtlipbdiijjfheaaGreatDoor
open Go.RowKit

/-- Fits in 64 bits with a sign. -/
def In64 (n : Int) : Prop := -9223372036854775808 ≤ n ∧ n ≤ 9223372036854775807

theorem natAbs_two (a : Int) (e : Nat) (h : ¬ In64 (a ^ e)) : 2 ≤ a.natAbs := by
  by_cases h2 : 2 ≤ a.natAbs
  · exact h2
  · exfalso
    apply h
    have hle : (a ^ e).natAbs ≤ 1 := by
      rw [Int.natAbs_pow]
      have : a.natAbs ^ e ≤ 1 ^ e := Nat.pow_le_pow_left (by omega) e
      simpa using this
    unfold In64
    omega

theorem over_mono {a : Int} {e K : Nat} (hle : e ≤ K) (h : ¬ In64 (a ^ e)) : ¬ In64 (a ^ K) := by
  have h2 := natAbs_two a e h
  by_cases hk : e = K
  · subst hk; exact h
  · have h1 : 9223372036854775808 ≤ (a ^ e).natAbs := by unfold In64 at h; omega
    have h3 : (a ^ K).natAbs = (a ^ e).natAbs * a.natAbs ^ (K - e) := by
      rw [Int.natAbs_pow, Int.natAbs_pow, ← Nat.pow_add]; congr 1; omega
    have h4 : 2 ≤ a.natAbs ^ (K - e) := by
      have : a.natAbs ^ 1 ≤ a.natAbs ^ (K - e) := Nat.pow_le_pow_right (by omega) (by omega)
      rw [Nat.pow_one] at this
      omega
    have h5 : 9223372036854775808 * 2 ≤ (a ^ e).natAbs * a.natAbs ^ (K - e) := Nat.mul_le_mul h1 h4
    unfold In64
    omega

theorem half_step (K j : Nat) (hj : 1 ≤ j) : K / 2 ^ (j - 1) = 2 * (K / 2 ^ j) + K / 2 ^ (j - 1) % 2 := by
  have e : (2 : Nat) ^ j = 2 ^ (j - 1) * 2 := by rw [← Nat.pow_succ]; congr 1; omega
  rw [e, ← Nat.div_div_eq_div_mul]
  omega

theorem pow_even (a : Int) (q : Nat) : a ^ (2 * q) = a ^ q * a ^ q := by rw [← Int.pow_add]; congr 1; omega
theorem pow_odd (a : Int) (q : Nat) : a ^ (2 * q + 1) = a ^ q * a ^ q * a := by rw [Int.pow_succ, pow_even]

theorem bitLen_top (K : Nat) (h : K < 18446744073709551616) : K / 2 ^ Lib.bitLen K = 0 := by
  by_cases h0 : K = 0
  · subst h0; simp
  · have := Lib.bitLenAux_bounds 64 K h h0
    exact Nat.div_eq_of_lt this.2.2
theorem bitLen_64 (K : Nat) (h : K < 18446744073709551616) : Lib.bitLen K ≤ 64 := Lib.bitLen_le K 64 (Nat.le_refl _) h
end Go.Proofs.YtlipbdiijjfheaaGreatDoor
