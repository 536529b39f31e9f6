/-
  The library's count of a number's bits, at this program: for any number of 64 bits without a sign; nothing is written.
-/
import Derived.Test.YtghhgihfgoenjaaDoorProg
import Derived.Test.YtghhgihfgoenjaaDoorPlain
import Derived.Shelf.Small.Bits
namespace Go.Proofs.YtghhgihfgoenjaaDoor
open Go.RowKit Go.Shelf

def Tryd.lays125_ren : Go.Shelf.Ren := ⟨fun | 125 => 39 | 128 => 42 | 129 => 43 | n => n, fun | 46 => 48 | 3 => 3 | 51 => 60 | 53 => 29 | 4 => 4 | 5 => 5 | 9 => 9 | n => n, fun | n => n⟩
theorem Tryd.lays125 : Go.Proofs.Lays.n125 Tryd.prog Tryd.lays125_ren := {
  mixed := by kernel_rfl,
  f125 := Tryd.func39.trans (congrArg some (by kernel_rfl)),
  f128 := Tryd.func42.trans (congrArg some (by kernel_rfl)),
  f129 := Tryd.func43.trans (congrArg some (by kernel_rfl)),
  t3 := Tryd.underlying3,
  a3 := Tryd.isAgg3,
  z3 := Tryd.sizeOf3,
  v3 := Tryd.zeroValue3,
  t4 := Tryd.underlying4,
  a4 := Tryd.isAgg4,
  z4 := Tryd.sizeOf4,
  v4 := Tryd.zeroValue4,
  t5 := Tryd.underlying5,
  a5 := Tryd.isAgg5,
  z5 := Tryd.sizeOf5,
  v5 := Tryd.zeroValue5,
  t9 := Tryd.underlying9,
  a9 := Tryd.isAgg9,
  z9 := Tryd.sizeOf9,
  v9 := Tryd.zeroValue9,
  t46 := Tryd.underlying48,
  a46 := Tryd.isAgg48,
  z46 := Tryd.sizeOf48,
  v46 := Tryd.zeroValue48,
  t51 := Tryd.underlying60,
  a51 := Tryd.isAgg60,
  z51 := Tryd.sizeOf60,
  v51 := Tryd.zeroValue60,
  t53 := Tryd.underlying29,
  a53 := Tryd.isAgg29,
  z53 := Tryd.sizeOf29,
  v53 := Tryd.zeroValue29 }

theorem bitsLen (x : Int) (w : World) (h0 : 0 ≤ x) (h1 : x ≤ 18446744073709551615) :
    Calls Tryd.prog 39 #[.int .u64 x] w fun e w' => e = .returned (.int .i64 (Lib.bitLen x.toNat)) ∧ w' = w := Any.bits_Len Tryd.lays125 x w h0 h1
end Go.Proofs.YtghhgihfgoenjaaDoor
