/-
  What Beta of package eisen tells, for any exponent of 64 bits, in whatever memory.
-/
import Derived.Test.YtlipbdiijjfheaaGreatDoorBetMath
import Derived.Test.YtlipbdiijjfheaaGreatDoorERing
namespace Go.Proofs.YtlipbdiijjfheaaGreatDoor
open Go.RowKit

set_option maxHeartbeats 1000000 in
theorem ebeta_yes (K : Nat) (hK : K ≤ 20) (w : World) :
    Calls Tryz.prog 79 #[.int .i64 (K : Int)] w fun e w' => e = .returned (.tuple #[.agg #[.int .i64 (bet K).1, .int .i64 (bet K).2], .bool true]) ∧ Below w.heap.size w w' := by
  go_enter Tryz.func79, Tryz.ntmps79
  go_wp2_with fail
  go_loopw [5, 15] (fun vo vi wr => ∃ q : Nat, q ≤ K ∧ vo = .bool true ∧ vi = .int .i64 (q : Int) ∧ Hid (BetAt w q wr)) (fun _ vi _ => K - (intOf vi).toNat)
  case atStart =>
    refine ⟨0, Nat.zero_le _, rfl, rfl, ?_⟩
    show BetAt w 0 _
    exact ⟨by go_simp; rfl, by go_simp; rfl, by go_simp, by go_simp, by go_simp, by go_simp, by go_simp, by go_simp, by go_grown⟩
  case round =>
    obtain ⟨q, hq, rfl, rfl, HB⟩ := hrel
    obtain ⟨z0, z1, fz0, fz1, s0, s1, fs0, fs1, hb⟩ := HB.out
    clear HB
    have hz : w.heap.size + 1 < wr.heap.size := World.block_lt_of_cell? _ _ z0
    by_cases hlt : q < K
    · obtain ⟨b1, b2, b3, b4⟩ := bet_box q (by omega)
      obtain ⟨n1, n2, n3, n4⟩ := bet_box (q + 1) (by omega)
      have HM : Hid (∀ w, Calls Tryz.prog 80 #[.agg #[.int .i64 (bet q).1, .int .i64 (bet q).2], .agg #[.int .i64 2, .int .i64 1]] w fun e w' => e = .returned (.tuple #[.agg #[.int .i64 (bet (q + 1)).1, .int .i64 (bet (q + 1)).2], .bool true]) ∧ Below w.heap.size w w') :=
        fun w => by
          have h := emul_any (bet q).1 (bet q).2 2 1 (by omega) (by omega) (by omega) (by omega) (by omega) (by omega) (by omega) (by omega) w
          have ex : (bet q).1 * 2 - (bet q).2 * 1 = (bet (q + 1)).1 := by show _ = mulA (bet q).1 (bet q).2 2 1; unfold mulA; omega
          have ey : (bet q).1 * 1 + (bet q).2 * 2 + (bet q).2 * 1 = (bet (q + 1)).2 := by show _ = mulB (bet q).1 (bet q).2 2 1; unfold mulB; omega
          rw [ex, ey] at h
          have hb := both_mk (x := (bet (q + 1)).1) (y := (bet (q + 1)).2) (fits_mk ⟨by omega, by omega⟩) (fits_mk ⟨by omega, by omega⟩)
          rw [hb, keptA_mk hb, keptB_mk hb] at h
          exact h
      clear b1 b2 b3 b4 n1 n2 n3 n4
      obtain ⟨X, hX⟩ : ∃ X, (bet q).1 = X := ⟨_, rfl⟩
      obtain ⟨Y, hY⟩ : ∃ Y, (bet q).2 = Y := ⟨_, rfl⟩
      obtain ⟨U, hU⟩ : ∃ U, (bet (q + 1)).1 = U := ⟨_, rfl⟩
      obtain ⟨V, hV⟩ : ∃ V, (bet (q + 1)).2 = V := ⟨_, rfl⟩
      rw [hX, hY, hU, hV] at HM
      rw [hX] at z0
      rw [hY] at z1
      have HU : Hid ((bet (q + 1)).1 = U) := hU
      have HV : Hid ((bet (q + 1)).2 = V) := hV
      clear hX hY hU hV
      go_wp2_with fail
      refine (HM.out _).mono ?_
      rintro e w2 ⟨rfl, c2⟩
      have k0 := keepCell c2 z0
      have k1 := keepCell c2 z1
      have g0 := keepFrozen c2 z0 fz0
      have g1 := keepFrozen c2 z1 fz1
      have r0 := keepCell c2 s0
      have r1 := keepCell c2 s1
      have t0 := keepFrozen c2 s0 fs0
      have t1 := keepFrozen c2 s1 fs1
      have hb2 := belowT hb c2
      clear z0 z1 fz0 fz1 s0 s1 fs0 fs1 hb c2
      obtain ⟨y0, y1⟩ := two_stores (u := .int .i64 U) (v := .int .i64 V) k0 k1
      go_wp2
      go_roundw
      case rel =>
        refine ⟨q + 1, by omega, rfl, by go_num, ?_⟩
        show BetAt w (q + 1) _
        unfold BetAt
        rw [HU.out, HV.out]
        refine ⟨y0, y1, by simp [g0], by simp [g1], ?_, ?_, by simp [t0], by simp [t1], (hb2.setCell (by simp) _).setCell (by simp) _⟩
        · rw [World.cell?_setCell_other _ _ _ _ (by simp), World.cell?_setCell_other _ _ _ _ (by simp)]; exact r0
        · rw [World.cell?_setCell_other _ _ _ _ (by simp), World.cell?_setCell_other _ _ _ _ (by simp)]; exact r1
      case measure => simp [intOf]; omega
    · obtain rfl : q = K := by omega
      obtain ⟨X, hX⟩ : ∃ X, (bet q).1 = X := ⟨_, rfl⟩
      obtain ⟨Y, hY⟩ : ∃ Y, (bet q).2 = Y := ⟨_, rfl⟩
      rw [hX] at z0
      rw [hY] at z1
      have HX : Hid ((bet q).1 = X) := hX
      have HY : Hid ((bet q).2 = Y) := hY
      clear hX hY
      obtain ⟨y0, y1⟩ := two_stores (u := .int .i64 X) (v := .int .i64 Y) s0 s1
      go_wp2
      exact bodyPost_ret (v := .tuple #[.agg #[.int .i64 X, .int .i64 Y], .bool true]) (by simp [results, Tryz.results79, go_sem, y0, y1]) rfl ⟨by rw [HX.out, HY.out], (hb.setCell (by simp) _).setCell (by simp) _⟩

set_option maxHeartbeats 400000 in
theorem ebeta_below (k : Int) (h : k < 0) (w : World) :
    Calls Tryz.prog 79 #[.int .i64 k] w fun e w' => e = .returned (.tuple #[.agg #[.int .i64 0, .int .i64 0], .bool false]) ∧ Below w.heap.size w w' := by
  go_enter Tryz.func79, Tryz.ntmps79
  go_wp2
  exact bodyPost_ret (v := .tuple #[.agg #[.int .i64 0, .int .i64 0], .bool false]) (by simp [results, Tryz.results79, go_sem]) rfl ⟨rfl, by go_grown⟩
set_option maxHeartbeats 400000 in
theorem ebeta_above (k : Int) (h0 : ¬ k < 0) (h : 20 < k) (w : World) :
    Calls Tryz.prog 79 #[.int .i64 k] w fun e w' => e = .returned (.tuple #[.agg #[.int .i64 0, .int .i64 0], .bool false]) ∧ Below w.heap.size w w' := by
  have q := df h0
  go_enter Tryz.func79, Tryz.ntmps79
  go_wp2
  exact bodyPost_ret (v := .tuple #[.agg #[.int .i64 0, .int .i64 0], .bool false]) (by simp [results, Tryz.results79, go_sem]) rfl ⟨rfl, by go_grown⟩
end Go.Proofs.YtlipbdiijjfheaaGreatDoor
