/-
  What the library's Mul64 tells: the whole product in its halves, for any two numbers of 64 bits without a sign, in whatever memory.
-/
import Derived.Test.YtlipbdiijjfheabDoorHalves
import Derived.Shelf.Bits.Mul64
namespace Go.Proofs.YtlipbdiijjfheabDoor
open Go.RowKit Go.Shelf

def Tryd.lays264_ren : Go.Shelf.Ren := ⟨fun | 264 => 72 | n => n, fun | 53 => 27 | 46 => 31 | n => n, fun | n => n⟩
theorem Tryd.lays264 : Go.Proofs.Lays.n264 Tryd.prog Tryd.lays264_ren := {
  mixed := by kernel_rfl,
  f264 := Tryd.func72.trans (congrArg some (by kernel_rfl)),
  t46 := Tryd.underlying31,
  a46 := Tryd.isAgg31,
  z46 := Tryd.sizeOf31,
  v46 := Tryd.zeroValue31,
  t53 := Tryd.underlying27,
  a53 := Tryd.isAgg27,
  z53 := Tryd.sizeOf27,
  v53 := Tryd.zeroValue27 }

theorem mul64_any (p q : Int) (p0 : 0 ≤ p) (p1 : p ≤ 18446744073709551615) (q0 : 0 ≤ q) (q1 : q ≤ 18446744073709551615) (w : World) :
    Calls Tryd.prog 72 #[.int .u64 p, .int .u64 q] w fun e w' => e = .returned (.tuple #[.int .u64 (high64 (p * q)), .int .u64 (low64 (p * q))]) ∧ w' = w := by
  obtain ⟨P, rfl⟩ := Int.eq_ofNat_of_zero_le p0
  obtain ⟨Q, rfl⟩ := Int.eq_ofNat_of_zero_le q0
  have h := Any.bits_Mul64 Tryd.lays264 P Q (by omega) (by omega) w
  have hlt : P * Q < 18446744073709551616 * 18446744073709551616 := Nat.mul_lt_mul'' (by omega) (by omega)
  have e1 : ((P * Q / 18446744073709551616 : Nat) : Int) = high64 ((P : Int) * (Q : Int)) := by
    rw [← Int.natCast_mul]; unfold high64; omega
  have e2 : ((P * Q % 18446744073709551616 : Nat) : Int) = low64 ((P : Int) * (Q : Int)) := by
    rw [← Int.natCast_mul]; unfold low64; omega
  rw [e1, e2] at h
  exact h

end Go.Proofs.YtlipbdiijjfheabDoor
