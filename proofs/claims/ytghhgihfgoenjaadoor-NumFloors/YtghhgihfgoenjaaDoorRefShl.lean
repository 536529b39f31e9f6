/-
  What the document's own Shl tells, for any number and any count of 64 bits, in whatever memory: the number, so often doubled, where it fits.
-/
import Derived.Test.YtghhgihfgoenjaaDoorTimes
import Derived.Test.YtghhgihfgoenjaaDoorPowNum
import Derived.Deep.LoopGhost
namespace Go.Proofs.YtghhgihfgoenjaaDoor
open Go.RowKit Go.Shelf

theorem shl_step (a : Int) (i : Nat) : a * 2 ^ (i + 1) = a * 2 ^ i + a * 2 ^ i := by rw [Int.pow_succ, ← Int.mul_assoc]; omega
theorem shl_mono {a : Int} {i K : Nat} (hle : i ≤ K) (h : ¬ In64 (a * 2 ^ i)) : ¬ In64 (a * 2 ^ K) := by
  induction K with
  | zero =>
    have e : i = 0 := Nat.le_zero.1 hle
    rw [e] at h
    exact h
  | succ K ih =>
    by_cases e : i = K + 1
    · subst e; exact h
    · have := ih (by omega)
      rw [shl_step]
      unfold In64 at this ⊢
      omega
theorem shl_zero {a : Int} {i : Nat} (h : a * 2 ^ i = 0) : a = 0 := by
  rcases Int.mul_eq_zero.1 h with h | h
  · exact h
  · have : (0 : Int) < 2 ^ i := Int.pow_pos (by omega)
    omega

set_option maxHeartbeats 400000 in
theorem refshl_below (a k : Int) (hk : k < 0) (w : World) :
    Calls Tryd.prog 23 #[.int .i64 a, .int .i64 k] w fun e w' => e = .returned (.tuple #[.int .i64 0, .bool false]) ∧ Below w.heap.size w w' := by
  go_enter Tryd.func23, Tryd.ntmps23
  go_wp2
  go_ret2
  exact ⟨rfl, Below.refl _ _⟩

set_option maxHeartbeats 1000000 in
theorem refshl_any (a : Int) (K : Nat) (a1 : -9223372036854775808 ≤ a) (a2 : a ≤ 9223372036854775807) (hK : K ≤ 9223372036854775807) (w : World) :
    Calls Tryd.prog 23 #[.int .i64 a, .int .i64 (K : Int)] w fun e w' => e = .returned (.tuple #[.int .i64 (kept (a * 2 ^ K)), .bool (fits (a * 2 ^ K))]) ∧ Below w.heap.size w w' := by
  go_enter Tryd.func23, Tryd.ntmps23
  go_wp2
  go_loopw [0, 6] (fun v i wr => ∃ (q : Nat) (m : Int), q ≤ K ∧ i = .int .i64 (q : Int) ∧ v = .int .i64 m ∧ -9223372036854775808 ≤ m ∧ m ≤ 9223372036854775807 ∧ Hid (m = a * 2 ^ q) ∧ Below w.heap.size w wr) (fun _ i _ => K - (intOf i).toNat)
  case atStart => exact ⟨0, a, Nat.zero_le _, rfl, rfl, a1, a2, (by show a = a * 2 ^ 0; simp), Below.refl _ _⟩
  case round =>
    obtain ⟨q, m, hq, rfl, rfl, m1, m2, HM, hb⟩ := hrel
    by_cases hlt : q < K
    · by_cases hm : m = 0
      · have HA : Hid (kept (a * 2 ^ K) = 0 ∧ fits (a * 2 ^ K) = true) := by
          have e := HM.out
          rw [hm] at e
          have ha := shl_zero e.symm
          rw [ha, Int.zero_mul]
          exact ⟨kept_mk (fits_mk ⟨by omega, by omega⟩), fits_mk ⟨by omega, by omega⟩⟩
        clear HM
        subst hm
        go_wp2
        go_ret2
        exact ⟨by rw [HA.out.1, HA.out.2]; rfl, hb⟩
      · have hm0 : (m == 0) = false := by simpa using hm
        have hm2 : (m != 0) = true := by simpa using hm
        by_cases hd : In64 (m + m)
        · go_wp2_with fail
          refine (wide_any m m1 m2 _).mono ?_
          rintro e w1 ⟨rfl, c1⟩
          go_wp2_with fail
          refine (wide_any m m1 m2 _).mono ?_
          rintro e w2 ⟨rfl, c2⟩
          replace c2 := belowT c1 c2
          clear c1
          go_wp2_with fail
          refine (plus_any m m _).mono ?_
          rintro e w3 ⟨rfl, c3⟩
          replace c3 := belowT c2 c3
          clear c2
          go_wp2_with fail
          refine (small_any (m + m) (by omega) (by omega) _).mono ?_
          rw [kept_mk (fits_mk hd), fits_mk hd]
          rintro e w4 ⟨rfl, c4⟩
          replace c4 := belowT c3 c4
          clear c3
          have hb' := belowT hb c4
          clear hb c4
          go_wp2
          go_roundw
          case rel =>
            exact ⟨q + 1, m + m, by omega, by go_num, rfl, hd.1, hd.2, (by show m + m = a * 2 ^ (q + 1); rw [shl_step, ← HM.out]), hb'⟩
          case measure => simp [intOf]; omega
        · have HA : Hid (kept (a * 2 ^ K) = 0 ∧ fits (a * 2 ^ K) = false) := by
            have hn : ¬ In64 (a * 2 ^ K) := shl_mono (i := q + 1) (by omega) (by rw [shl_step, ← HM.out]; exact hd)
            exact ⟨kept_no (fits_no hn), fits_no hn⟩
          clear HM
          go_wp2_with fail
          refine (wide_any m m1 m2 _).mono ?_
          rintro e w1 ⟨rfl, c1⟩
          go_wp2_with fail
          refine (wide_any m m1 m2 _).mono ?_
          rintro e w2 ⟨rfl, c2⟩
          replace c2 := belowT c1 c2
          clear c1
          go_wp2_with fail
          refine (plus_any m m _).mono ?_
          rintro e w3 ⟨rfl, c3⟩
          replace c3 := belowT c2 c3
          clear c2
          go_wp2_with fail
          refine (small_any (m + m) (by omega) (by omega) _).mono ?_
          rw [kept_no (fits_no hd), fits_no hd]
          rintro e w4 ⟨rfl, c4⟩
          replace c4 := belowT c3 c4
          clear c3
          have hb' := belowT hb c4
          clear hb c4
          go_wp2
          go_ret2
          exact ⟨by rw [HA.out.1, HA.out.2]; rfl, hb'⟩
    · obtain rfl : q = K := by omega
      have HA : Hid (kept (a * 2 ^ q) = m ∧ fits (a * 2 ^ q) = true) := by
        have e := HM.out
        rw [← e]
        exact ⟨kept_mk (fits_mk ⟨m1, m2⟩), fits_mk ⟨m1, m2⟩⟩
      clear HM
      go_wp2
      go_ret2
      exact ⟨by rw [HA.out.1, HA.out.2]; rfl, hb⟩
end Go.Proofs.YtghhgihfgoenjaaDoor
