/-
  The word of a point's cell, as the statements of layer 6 make it of any numbers: its cell is so near the middle that all about it may be; in whatever memory.
-/
import Derived.Test.YteipijgkiobmaabGreatDoorNB2
import Derived.Test.YteipijgkiobmaabGreatDoorNB6
import Derived.Test.YteipijgkiobmaabGreatDoorNPair
namespace Go.Proofs.YteipijgkiobmaabGreatDoor
open Go.RowKit

theorem even_part (y : Int) : -9223372036854775808 ≤ bits .andNot .i64 y 1 ∧ bits .andNot .i64 y 1 ≤ 9223372036854775807 ∧ bits .and .i64 (bits .andNot .i64 y 1) 1 = 0 := by
  have h1 := i64_mask (bits .andNot .i64 y 1) 1 (by omega)
  have e1 : ((2 ^ 1 - 1 : Nat) : Int) = 1 := by decide
  have e2 : ((2 ^ 1 : Nat) : Int) = 2 := by decide
  rw [e1, e2] at h1
  rw [h1]
  have hx : ((BitVec.ofInt 64 y &&& ~~~(BitVec.ofInt 64 1)) &&& 1#64) = 0#64 := by
    rw [BitVec.and_assoc, show (~~~(BitVec.ofInt 64 1) &&& 1#64) = 0#64 by decide, BitVec.and_zero]
  have hn := congrArg BitVec.toNat hx
  rw [BitVec.toNat_and, show (1#64).toNat = 1 by decide, Nat.and_one_is_mod, show (0#64).toNat = 0 by decide] at hn
  have hb : bits .andNot .i64 y 1 = IntKind.i64.wrap ((BitVec.ofInt 64 y &&& ~~~(BitVec.ofInt 64 1)).toNat : Int) := rfl
  rw [hb, IntKind.wrap_i64]
  generalize (BitVec.ofInt 64 y &&& ~~~(BitVec.ofInt 64 1)).toNat = n at *
  omega

set_option maxHeartbeats 1000000 in
theorem pword_at (x0 y0 r0 : Int) (s : Nat) (P Q : Int) (hO : Ok4 (s : Int) P Q) (SO : ∀ w, Calls Tryz.prog 15 #[.int .i64 x0, .int .i64 y0, .int .i64 r0] w fun e w' => e = .returned (.agg #[.int .i64 s, .int .i64 P, .int .i64 Q]) ∧ Below w.heap.size w w') (w : World) :
    Calls Tryz.prog 6 #[.int .i64 x0, .int .i64 y0, .int .i64 r0] w fun e w' => e = .returned (.int .u64 (wordOf s P Q)) ∧ Below w.heap.size w w' := by
  replace SO := hidd SO
  have WO := hidd (rword_yes s P Q hO)
  clear hO
  go_enter Tryz.func6, Tryz.ntmps6
  go_wp2_with fail
  refine (SO.out _).mono ?_
  rintro e w1 ⟨rfl, d1⟩
  have c1 : Below w.heap.size w w1 := Below.trans (by go_grown) (d1.mono (by simp; try omega))
  have hB := c1
  clear c1 d1
  go_wp2_with fail
  refine (WO.out _).mono ?_
  rintro e w2 ⟨rfl, d2⟩
  have c2 : Below w1.heap.size w1 w2 := Below.trans (by go_grown) (d2.mono (by simp; try omega))
  replace hB := belowT hB c2
  clear c2 d2
  go_wp2
  go_ret
  exact ⟨rfl, hB⟩
/-- The word of a point's cell. -/
theorem pword (x0 y r0 : Int) : ∃ (s : Nat) (P Q : Int), Mid s P Q ∧ (0 ≤ r0 → r0 ≤ 12 → (s : Int) = r0) ∧ ∀ w, Calls Tryz.prog 6 #[.int .i64 x0, .int .i64 (bits .andNot .i64 y 1), .int .i64 r0] w fun e w' => e = .returned (.int .u64 (wordOf s P Q)) ∧ Below w.heap.size w w' := by
  obtain ⟨t, s, K, ht, hs, t1, t2, hK, hr⟩ := size13 r0
  have h0 : (bits .and .i64 (bits .andNot .i64 y 1) 1 == 0) = true := by rw [(even_part y).2.2]; rfl
  obtain ⟨u, v, hw, PT⟩ := point_any x0 (bits .andNot .i64 y 1)
  obtain ⟨a, b, hn⟩ := nearest_some (dvK_box (K := K) hK).1 (nuA K u v) (nuB K u v)
  have hm : Mid (12 - K) a b := ⟨by omega, near_norm0 hK hw hn⟩
  have hO := hm.self
  have es : (((12 - K : Nat)) : Int) = s := by omega
  refine ⟨12 - K, a, b, hm, fun h1 h2 => ?_, fun w => pword_at x0 _ r0 (12 - K) a b hO (fun w => ?_) w⟩
  · rw [es, ← hs, ← ht]
    rw [Int.tmod_eq_emod_of_nonneg h1, Int.tmod_eq_emod_of_nonneg (by omega)]
    omega
  · rw [es]
    exact csome_point x0 _ r0 t s _ u v a b ht hs t1 t2 rfl h0 PT (rnear_at u v s K hK hr hw a b hn) w
end Go.Proofs.YteipijgkiobmaabGreatDoor
