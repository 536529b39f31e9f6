/-
  What the document's own Seven tells, for the sizes there are, in whatever memory.
-/
import Derived.Test.YtchcidhcefblpaaDoorRefPow
import Derived.Test.YtchcidhcefblpaaDoorPNear
namespace Go.Proofs.YtchcidhcefblpaaDoor
open Go.RowKit

set_option maxHeartbeats 400000 in
theorem rseven_any (K : Nat) (hK : K ≤ 12) (w : World) :
    Calls Tryd.prog 13 #[.int .i64 (K : Int)] w fun e w' => e = .returned (.int .i64 (sev K)) ∧ Below w.heap.size w w' := by
  have h : Hid (∀ w, Calls Tryd.prog 26 #[.int .i64 7, .int .i64 (K : Int)] w fun e w' => e = .returned (.tuple #[.int .i64 (sev K), .bool true]) ∧ Below w.heap.size w w') := by
    have h := refpow_any 7 K (by omega) (by omega) (by omega)
    have hs := sev_box hK
    have hf : fits ((7 : Int) ^ K) = true := by rw [← sev_pow hK]; exact fits_mk ⟨by omega, by omega⟩
    rw [kept_mk hf, hf, ← sev_pow hK] at h
    exact h
  generalize sev K = S at h
  go_enter Tryd.func13, Tryd.ntmps13
  go_wp2_with fail
  refine (h.out _).mono ?_
  rintro e w1 ⟨rfl, d1⟩
  have c1 : Below w.heap.size w w1 := Below.trans (by go_grown) (d1.mono (by simp; try omega))
  have hB := c1
  clear c1 d1
  go_wp2
  go_ret
  exact ⟨rfl, hB⟩
end Go.Proofs.YtchcidhcefblpaaDoor
