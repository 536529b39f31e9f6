/-
  What the library's Mul64 tells: the whole product in its halves, for any two numbers of 64 bits without a sign, in whatever memory.
-/
import Derived.Test.YtlipbdiijjfheaaGreatDoorHalves
import Derived.Shelf.Bits.Mul64
namespace Go.Proofs.YtlipbdiijjfheaaGreatDoor
open Go.RowKit Go.Shelf

def Tryz.lays264_ren : Go.Shelf.Ren := ⟨fun | 264 => 88 | n => n, fun | 53 => 22 | 46 => 77 | n => n, fun | n => n⟩
theorem Tryz.lays264 : Go.Proofs.Lays.n264 Tryz.prog Tryz.lays264_ren := {
  mixed := by kernel_rfl,
  f264 := Tryz.func88.trans (congrArg some (by kernel_rfl)),
  t46 := Tryz.underlying77,
  a46 := Tryz.isAgg77,
  z46 := Tryz.sizeOf77,
  v46 := Tryz.zeroValue77,
  t53 := Tryz.underlying22,
  a53 := Tryz.isAgg22,
  z53 := Tryz.sizeOf22,
  v53 := Tryz.zeroValue22 }

theorem mul64_any (p q : Int) (p0 : 0 ≤ p) (p1 : p ≤ 18446744073709551615) (q0 : 0 ≤ q) (q1 : q ≤ 18446744073709551615) (w : World) :
    Calls Tryz.prog 88 #[.int .u64 p, .int .u64 q] w fun e w' => e = .returned (.tuple #[.int .u64 (high64 (p * q)), .int .u64 (low64 (p * q))]) ∧ w' = w := by
  obtain ⟨P, rfl⟩ := Int.eq_ofNat_of_zero_le p0
  obtain ⟨Q, rfl⟩ := Int.eq_ofNat_of_zero_le q0
  have h := Any.bits_Mul64 Tryz.lays264 P Q (by omega) (by omega) w
  have hlt : P * Q < 18446744073709551616 * 18446744073709551616 := Nat.mul_lt_mul'' (by omega) (by omega)
  have e1 : ((P * Q / 18446744073709551616 : Nat) : Int) = high64 ((P : Int) * (Q : Int)) := by
    rw [← Int.natCast_mul]; unfold high64; omega
  have e2 : ((P * Q % 18446744073709551616 : Nat) : Int) = low64 ((P : Int) * (Q : Int)) := by
    rw [← Int.natCast_mul]; unfold low64; omega
  rw [e1, e2] at h
  exact h

end Go.Proofs.YtlipbdiijjfheaaGreatDoor
