/-
  Small plain facts on numbers of 64 bits and on worlds that grow, which the walks over package num use; no condition.
-/
import Derived.Handy
import Derived.Deep.QuietTactic
namespace Go.Proofs.YtlipbdiijjfheaaGreatDoor
open Go.RowKit

theorem belowN {B : Nat} {w0 w : World} (h : Below B w0 w) (n : Nat) : Below B w0 (w.drewN n) := h.trans ⟨rfl, rfl, rfl, Nat.le_refl _, fun _ _ => rfl⟩
theorem belowT {a b c : World} (h : Below a.heap.size a b) (k : Below b.heap.size b c) : Below a.heap.size a c := h.trans (k.mono h.size)
theorem df {p : Prop} [Decidable p] (h : ¬ p) : decide p = false := decide_eq_false h

/-- A number of 64 bits with a sign. -/
def fits (n : Int) : Bool := decide (-9223372036854775808 ≤ n ∧ n ≤ 9223372036854775807)
/-- The number, where it fits; else nought. -/
def kept (n : Int) : Int := if fits n = true then n else 0
theorem fits_mk {n : Int} (h : -9223372036854775808 ≤ n ∧ n ≤ 9223372036854775807) : fits n = true := decide_eq_true h
theorem fits_of {n : Int} (h : fits n = true) : -9223372036854775808 ≤ n ∧ n ≤ 9223372036854775807 := of_decide_eq_true h
theorem fits_no {n : Int} (h : ¬ (-9223372036854775808 ≤ n ∧ n ≤ 9223372036854775807)) : fits n = false := decide_eq_false h
theorem kept_mk {n : Int} (h : fits n = true) : kept n = n := if_pos h
theorem kept_no {n : Int} (h : fits n = false) : kept n = 0 := by unfold kept; rw [h]; rfl
theorem kept_bd (n : Int) : -9223372036854775808 ≤ kept n ∧ kept n ≤ 9223372036854775807 := by
  by_cases h : fits n = true
  · rw [kept_mk h]; exact fits_of h
  · rw [kept_no (by simpa using h)]; omega
theorem wrap_fits {n : Int} (h : -9223372036854775808 ≤ n ∧ n ≤ 9223372036854775807) : wrap64 n = n := IntWalk.wrap64_in n h
theorem wrap_bd (n : Int) : -9223372036854775808 ≤ wrap64 n ∧ wrap64 n ≤ 9223372036854775807 := by unfold wrap64; omega
theorem wrap_mod (n : Int) : ∃ k : Int, wrap64 n = n + 18446744073709551616 * k := ⟨-((n + 9223372036854775808) / 18446744073709551616), by unfold wrap64; omega⟩

/-- Dividing back tells whether a product wrapped. -/
theorem back_fits {a b : Int} (ha : a ≠ 0) : (a * b).tdiv a = b := Int.mul_tdiv_cancel_left b ha
theorem back_over {a b n : Int} (ha : a ≠ 0) (a1 : -9223372036854775808 ≤ a) (a2 : a ≤ 9223372036854775807) (hn : n = wrap64 (a * b)) (ho : ¬ (-9223372036854775808 ≤ a * b ∧ a * b ≤ 9223372036854775807)) : n.tdiv a ≠ b := by
  intro h
  obtain ⟨k, hk⟩ := wrap_mod (a * b)
  have hb := wrap_bd (a * b)
  rw [← hn] at hk hb
  have e := Int.mul_tdiv_add_tmod n a
  rw [h] at e
  have hr : (n.tmod a).natAbs < a.natAbs := by
    rw [Int.natAbs_tmod]; exact Nat.mod_lt _ (by omega)
  have : n.tmod a = 18446744073709551616 * k := by omega
  have hk0 : k = 0 := by omega
  subst hk0
  omega
theorem tdiv_bd {n a : Int} (h1 : -9223372036854775808 ≤ n) (h2 : n ≤ 9223372036854775807) (hm : a ≠ -1) : -9223372036854775808 ≤ n.tdiv a ∧ n.tdiv a ≤ 9223372036854775807 := by
  have h : (n.tdiv a).natAbs = n.natAbs / a.natAbs := Int.natAbs_tdiv n a
  by_cases h0 : a = 0
  · subst h0; simp
  · by_cases hp : a = 1
    · subst hp; simp; omega
    · have hd : n.natAbs / a.natAbs ≤ n.natAbs / 2 := Nat.div_le_div_left (by omega) (by omega)
      omega
end Go.Proofs.YtlipbdiijjfheaaGreatDoor
