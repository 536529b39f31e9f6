/-
  What Add, Sub, Neg and Mul of package num tell, for any two numbers of 64 bits, in whatever memory: the whole number where it fits, else nought and false.
-/
import Derived.Test.YtlipbdiijjfheaaGreatDoorProg
import Derived.Test.YtlipbdiijjfheaaGreatDoorPlain
import Derived.Handy
import Derived.WalkSpells
import Derived.WalkLawsBesides
import Derived.Deep.QuietTactic
import Derived.BigQuiet
namespace Go.Proofs.YtlipbdiijjfheaaGreatDoor
open Go.RowKit

theorem hmf : ∀ (fn : Fn) (first cap : Array Value) (w : World), (Instr.makeFunc fn first cap).run Tryz.prog w = .ok (.func fn first cap) w := fun _ _ _ _ => rfl

set_option maxHeartbeats 400000 in
theorem add_fits (a b : Int) (_ha : -9223372036854775808 ≤ a) (_ha' : a ≤ 9223372036854775807) (h : -9223372036854775808 ≤ a + b) (h' : a + b ≤ 9223372036854775807) (w : World) :
    Calls Tryz.prog 112 #[.int .i64 a, .int .i64 b] w fun e w' => e = .returned (.tuple #[.int .i64 (a + b), .bool true]) ∧ Below w.heap.size w w' := by
  have hmf := hmf
  by_cases hp : 0 < b
  · have hq : a < a + b := by omega
    go_enter Tryz.func112, Tryz.ntmps112
    go_wp2
    go_quiet (fail)
    go_wp2
    go_ret2
    exact ⟨rfl, belowN (by go_grown) _⟩
  · have hq := df (show ¬ a < a + b by omega)
    have hr := df hp
    go_enter Tryz.func112, Tryz.ntmps112
    go_wp2
    go_quiet (fail)
    go_wp2
    go_ret2
    exact ⟨rfl, belowN (by go_grown) _⟩

set_option maxHeartbeats 400000 in
theorem add_over (a b : Int) (ha : -9223372036854775808 ≤ a) (ha' : a ≤ 9223372036854775807) (hb : -9223372036854775808 ≤ b) (hb' : b ≤ 9223372036854775807)
    (h : a + b < -9223372036854775808 ∨ 9223372036854775807 < a + b) (w : World) :
    Calls Tryz.prog 112 #[.int .i64 a, .int .i64 b] w fun e w' => e = .returned (.tuple #[.int .i64 0, .bool false]) ∧ Below w.heap.size w w' := by
  have hmf := hmf
  by_cases hp : 0 < b
  · obtain ⟨n, hn, hq⟩ : ∃ n, wrap64 (a + b) = n ∧ decide (a < n) = false := ⟨_, rfl, by unfold wrap64; exact df (by omega)⟩
    clear h
    go_enter Tryz.func112, Tryz.ntmps112
    go_wp2
    go_quiet (fail)
    go_wp2
    go_ret2
    exact ⟨rfl, belowN (by go_grown) _⟩
  · obtain ⟨n, hn, hq⟩ : ∃ n, wrap64 (a + b) = n ∧ a < n := ⟨_, rfl, by unfold wrap64; omega⟩
    have hr := df hp
    clear h
    go_enter Tryz.func112, Tryz.ntmps112
    go_wp2
    go_quiet (fail)
    go_wp2
    go_ret2
    exact ⟨rfl, belowN (by go_grown) _⟩

set_option maxHeartbeats 400000 in
theorem sub_fits (a b : Int) (_ha : -9223372036854775808 ≤ a) (_ha' : a ≤ 9223372036854775807) (h : -9223372036854775808 ≤ a - b) (h' : a - b ≤ 9223372036854775807) (w : World) :
    Calls Tryz.prog 134 #[.int .i64 a, .int .i64 b] w fun e w' => e = .returned (.tuple #[.int .i64 (a - b), .bool true]) ∧ Below w.heap.size w w' := by
  have hmf := hmf
  by_cases hp : 0 < b
  · have hq : a - b < a := by omega
    go_enter Tryz.func134, Tryz.ntmps134
    go_wp2
    go_quiet (fail)
    go_wp2
    go_ret2
    exact ⟨rfl, belowN (by go_grown) _⟩
  · have hq := df (show ¬ a - b < a by omega)
    have hr := df hp
    go_enter Tryz.func134, Tryz.ntmps134
    go_wp2
    go_quiet (fail)
    go_wp2
    go_ret2
    exact ⟨rfl, belowN (by go_grown) _⟩

set_option maxHeartbeats 400000 in
theorem sub_over (a b : Int) (ha : -9223372036854775808 ≤ a) (ha' : a ≤ 9223372036854775807) (hb : -9223372036854775808 ≤ b) (hb' : b ≤ 9223372036854775807)
    (h : a - b < -9223372036854775808 ∨ 9223372036854775807 < a - b) (w : World) :
    Calls Tryz.prog 134 #[.int .i64 a, .int .i64 b] w fun e w' => e = .returned (.tuple #[.int .i64 0, .bool false]) ∧ Below w.heap.size w w' := by
  have hmf := hmf
  by_cases hp : 0 < b
  · obtain ⟨n, hn, hq⟩ : ∃ n, wrap64 (a - b) = n ∧ decide (n < a) = false := ⟨_, rfl, by unfold wrap64; exact df (by omega)⟩
    clear h
    go_enter Tryz.func134, Tryz.ntmps134
    go_wp2
    go_quiet (fail)
    go_wp2
    go_ret2
    exact ⟨rfl, belowN (by go_grown) _⟩
  · obtain ⟨n, hn, hq⟩ : ∃ n, wrap64 (a - b) = n ∧ n < a := ⟨_, rfl, by unfold wrap64; omega⟩
    have hr := df hp
    clear h
    go_enter Tryz.func134, Tryz.ntmps134
    go_wp2
    go_quiet (fail)
    go_wp2
    go_ret2
    exact ⟨rfl, belowN (by go_grown) _⟩

set_option maxHeartbeats 400000 in
theorem neg_fits (b : Int) (h : -9223372036854775808 < b) (h' : b ≤ 9223372036854775807) (w : World) :
    Calls Tryz.prog 135 #[.int .i64 b] w fun e w' => e = .returned (.tuple #[.int .i64 (-b), .bool true]) ∧ Below w.heap.size w w' := by
  have hmf := hmf
  by_cases hp : 0 < b
  · have hq : -b < 0 := by omega
    go_enter Tryz.func135, Tryz.ntmps135
    go_wp2
    go_quiet (fail)
    go_wp2
    go_ret2
    exact ⟨rfl, belowN (by go_grown) _⟩
  · have hq := df (show ¬ -b < 0 by omega)
    have hr := df hp
    go_enter Tryz.func135, Tryz.ntmps135
    go_wp2
    go_quiet (fail)
    go_wp2
    go_ret2
    exact ⟨rfl, belowN (by go_grown) _⟩

set_option maxHeartbeats 400000 in
theorem neg_low (w : World) :
    Calls Tryz.prog 135 #[.int .i64 (-9223372036854775808)] w fun e w' => e = .returned (.tuple #[.int .i64 0, .bool false]) ∧ Below w.heap.size w w' := by
  have hmf := hmf
  obtain ⟨m, hm, hq⟩ : ∃ m, wrap64 9223372036854775808 = m ∧ m < 0 := ⟨_, rfl, by unfold wrap64; omega⟩
  go_enter Tryz.func135, Tryz.ntmps135
  go_wp2
  go_quiet (fail)
  go_wp2
  go_ret2
  exact ⟨rfl, belowN (by go_grown) _⟩
end Go.Proofs.YtlipbdiijjfheaaGreatDoor
