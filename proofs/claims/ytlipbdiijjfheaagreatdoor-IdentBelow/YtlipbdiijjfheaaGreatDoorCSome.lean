/-
  A cell that may be, made of any three numbers, in whatever memory.
-/
import Derived.Test.YtlipbdiijjfheaaGreatDoorRKids
import Derived.Test.YtlipbdiijjfheaaGreatDoorRefNear
import Derived.Test.YtlipbdiijjfheaaGreatDoorPPoint
namespace Go.Proofs.YtlipbdiijjfheaaGreatDoor
open Go.RowKit

/-- The ending that tells a cell of a size that may be. -/
def TellsS (s : Int) (e : Ending) : Prop := ∃ P Q, e = .returned (.agg #[.int .i64 s, .int .i64 P, .int .i64 Q]) ∧ Ok4 s P Q

set_option maxHeartbeats 2000000 in
theorem csome_point (x0 y0 r0 t s m u v a b : Int) (ht : r0.tmod 13 = t) (hs : (t + 13).tmod 13 = s) (t1 : -13 < t) (t2 : t < 13) (hm : bits .and .i64 y0 1 = m) (h0 : (m == 0) = true)
    (PT : ∀ w, Calls Tryz.prog 45 #[.int .i64 x0, .int .i64 y0] w fun e w' => e = .returned (.tuple #[.int .i64 u, .int .i64 v]) ∧ Below w.heap.size w w')
    (NE : ∀ w, Calls Tryz.prog 46 #[.int .i64 u, .int .i64 v, .int .i64 s] w fun e w' => e = .returned (.tuple #[.agg #[.int .i64 a, .int .i64 b], .bool true]) ∧ Below w.heap.size w w') (w : World) :
    Calls Tryz.prog 21 #[.int .i64 x0, .int .i64 y0, .int .i64 r0] w fun e w' => e = .returned (.agg #[.int .i64 s, .int .i64 a, .int .i64 b]) ∧ Below w.heap.size w w' := by
  replace PT : Hid _ := PT
  replace NE : Hid _ := NE
  go_enter Tryz.func21, Tryz.ntmps21
  go_wp2_with fail
  refine (PT.out _).mono ?_
  rintro e w1 ⟨rfl, d1⟩
  have c1 : Below w.heap.size w w1 := Below.trans (by go_grown) (d1.mono (by simp; try omega))
  have r0' : w1.cell? ⟨w.heap.size, 0, none⟩ = some (.int .i64 0) := keepCell d1 (by go_simp)
  have fr0' : w1.frozen? ⟨w.heap.size, 0, none⟩ = false := keepFrozen (v := .int .i64 0) d1 (by go_simp) (by go_simp)
  have qr0' := World.block_lt_of_cell? _ _ r0'
  have r1' : w1.cell? ⟨w.heap.size, 1, none⟩ = some (.int .i64 0) := keepCell d1 (by go_simp)
  have fr1' : w1.frozen? ⟨w.heap.size, 1, none⟩ = false := keepFrozen (v := .int .i64 0) d1 (by go_simp) (by go_simp)
  have r2' : w1.cell? ⟨w.heap.size, 2, none⟩ = some (.int .i64 0) := keepCell d1 (by go_simp)
  have fr2' : w1.frozen? ⟨w.heap.size, 2, none⟩ = false := keepFrozen (v := .int .i64 0) d1 (by go_simp) (by go_simp)
  have hB := c1
  clear c1 d1
  go_wp2_with fail
  refine (NE.out _).mono ?_
  rintro e w2 ⟨rfl, d2⟩
  have c2 : Below w1.heap.size w1 w2 := Below.trans (by go_grown) (d2.mono (by simp; try omega))
  replace fr0' := keepFrozen c2 r0' fr0'
  replace r0' := keepCell c2 r0'
  replace qr0' := World.block_lt_of_cell? _ _ r0'
  replace fr1' := keepFrozen c2 r1' fr1'
  replace r1' := keepCell c2 r1'
  replace fr2' := keepFrozen c2 r2' fr2'
  replace r2' := keepCell c2 r2'
  replace hB := belowT hB c2
  clear c2 d2
  obtain ⟨g0, g1, g2⟩ := three_stores (u0 := .int .i64 s) (u1 := .int .i64 a) (u2 := .int .i64 b) r0' r1' r2'
  have e0 := keepCell (allocB _ (.cells #[.int .i64 a, .int .i64 b] 32)) g0
  have e1 := keepCell (allocB _ (.cells #[.int .i64 a, .int .i64 b] 32)) g1
  have e2 := keepCell (allocB _ (.cells #[.int .i64 a, .int .i64 b] 32)) g2
  go_wp2
  exact bodyPost_ret (v := .agg #[.int .i64 s, .int .i64 a, .int .i64 b]) (by simp [results, Tryz.results21, go_sem, e0, e1, e2]) rfl ⟨rfl, (((hB.setCell (by simp) _).setCell (by simp) _).setCell (by simp) _).alloc (by simp; omega) _⟩

set_option maxHeartbeats 8000000 in
set_option maxRecDepth 20000 in
theorem csome_down (x0 y0 r0 t : Int) (s : Nat) (hs12 : s ≤ 12) (m : Int) (ht : r0.tmod 13 = t) (hs : (t + 13).tmod 13 = (s : Int)) (t1 : -13 < t) (t2 : t < 13) (hm : bits .and .i64 y0 1 = m) (h0 : (m == 0) = false) (w : World) :
    Calls Tryz.prog 21 #[.int .i64 x0, .int .i64 y0, .int .i64 r0] w fun e w' => TellsS s e ∧ Below w.heap.size w w' := by
  have M63 : ∀ n, bits .and .i64 n 63 = n % 64 := fun n => by have := i64_mask n 6 (by omega); simpa using this
  have M1023 : ∀ n, bits .and .i64 n 1023 = n % 1024 := mask10
  go_enter Tryz.func21, Tryz.ntmps21
  go_wp2_with fail
  have c1 : -512 ≤ x0 % 1024 - 512 ∧ x0 % 1024 - 512 ≤ 511 := by omega
  have c2 : -512 ≤ x0 / 1024 % 1024 - 512 ∧ x0 / 1024 % 1024 - 512 ≤ 511 := by omega
  have hO0 : Hid (Ok4 ((0 : Nat) : Int) (x0 % 1024 - 512) (x0 / 1024 % 1024 - 512)) := ok4_of_base (r := 0) (by omega) c1 c2
  clear M1023
  go_loopw [10] (fun v10 wr => ∃ (k : Nat) (P Q : Int), k ≤ s ∧ v10 = .int .i64 (k : Int) ∧ Hid (Ok4 (k : Int) P Q) ∧ wr.cell? ⟨w.heap.size + 1, 0, none⟩ = some (.int .i64 (k : Int)) ∧ wr.cell? ⟨w.heap.size + 1, 1, none⟩ = some (.int .i64 P) ∧ wr.cell? ⟨w.heap.size + 1, 2, none⟩ = some (.int .i64 Q) ∧ wr.frozen? ⟨w.heap.size + 1, 0, none⟩ = false ∧ wr.frozen? ⟨w.heap.size + 1, 1, none⟩ = false ∧ wr.frozen? ⟨w.heap.size + 1, 2, none⟩ = false ∧ wr.cell? ⟨w.heap.size, 0, none⟩ = some (.int .i64 0) ∧ wr.cell? ⟨w.heap.size, 1, none⟩ = some (.int .i64 0) ∧ wr.cell? ⟨w.heap.size, 2, none⟩ = some (.int .i64 0) ∧ wr.frozen? ⟨w.heap.size, 0, none⟩ = false ∧ wr.frozen? ⟨w.heap.size, 1, none⟩ = false ∧ wr.frozen? ⟨w.heap.size, 2, none⟩ = false ∧ Below w.heap.size w wr) (fun v10 _ => s - (intOf v10).toNat)
  case atStart => exact ⟨0, _, _, by omega, rfl, hO0, by go_simp, by go_simp, by go_simp, by go_simp, by go_simp, by go_simp, by go_simp, by go_simp, by go_simp, by go_simp, by go_simp, by go_simp, by go_grown⟩
  case round =>
    clear hO0 c1 c2
    obtain ⟨k, P, Q, hk, rfl, HO, z0, z1, z2, fz0, fz1, fz2, y0', y1, y2, fy0', fy1, fy2, hB⟩ := hrel
    have lz : w.heap.size + 1 < wr.heap.size := World.block_lt_of_cell? _ _ z0
    by_cases hlt : k < s
    · have CH : Hid _ := rkids_yes (k : Int) P Q HO.out (by omega)
      have qz0 := World.block_lt_of_cell? _ _ z0
      have qy0' := World.block_lt_of_cell? _ _ y0'
      go_wp2_with fail
      refine (CH.out _).mono ?_
      rintro e v1 ⟨⟨g, cap, rfl, hG⟩, d1⟩
      have c1 : Below wr.heap.size wr v1 := Below.trans (by go_grown) (d1.mono (by simp; try omega))
      replace fz0 := keepFrozen c1 z0 fz0
      replace z0 := keepCell c1 z0
      replace qz0 := World.block_lt_of_cell? _ _ z0
      replace fz1 := keepFrozen c1 z1 fz1
      replace z1 := keepCell c1 z1
      replace fz2 := keepFrozen c1 z2 fz2
      replace z2 := keepCell c1 z2
      replace fy0' := keepFrozen c1 y0' fy0'
      replace y0' := keepCell c1 y0'
      replace qy0' := World.block_lt_of_cell? _ _ y0'
      replace fy1 := keepFrozen c1 y1 fy1
      replace y1 := keepCell c1 y1
      replace fy2 := keepFrozen c1 y2 fy2
      replace y2 := keepCell c1 y2
      replace hB := belowT hB c1
      clear c1 d1
      have hj : (y0 / 2 ^ (3 * k + 1) % 64 % 7).toNat < 7 := by omega
      have d0 : v1.cell? ⟨g, (y0 / 2 ^ (3 * k + 1) % 64 % 7).toNat * 3, none⟩ = some (.int .i64 ((k : Int) + 1)) := by rw [hG _ (by omega), kidG_0]
      have d1 : v1.cell? ⟨g, (y0 / 2 ^ (3 * k + 1) % 64 % 7).toNat * 3 + 1, none⟩ = some (.int .i64 (chA ((y0 / 2 ^ (3 * k + 1) % 64 % 7).toNat : Int) P Q)) := by rw [hG _ (by omega), kidG_1]
      have d2 : v1.cell? ⟨g, (y0 / 2 ^ (3 * k + 1) % 64 % 7).toNat * 3 + 2, none⟩ = some (.int .i64 (chB ((y0 / 2 ^ (3 * k + 1) % 64 % 7).toNat : Int) P Q)) := by rw [hG _ (by omega), kidG_2]
      have hO' : Hid (Ok4 ((k + 1 : Nat) : Int) (chA ((y0 / 2 ^ (3 * k + 1) % 64 % 7).toNat : Int) P Q) (chB ((y0 / 2 ^ (3 * k + 1) % 64 % 7).toNat : Int) P Q)) := ok4_child HO.out (by omega) (by omega) (by omega)
      obtain ⟨e0, e1, e2⟩ := three_stores (u0 := .int .i64 ((k : Int) + 1)) (u1 := .int .i64 (chA ((y0 / 2 ^ (3 * k + 1) % 64 % 7).toNat : Int) P Q)) (u2 := .int .i64 (chB ((y0 / 2 ^ (3 * k + 1) % 64 % 7).toNat : Int) P Q)) z0 z1 z2
      generalize chA ((y0 / 2 ^ (3 * k + 1) % 64 % 7).toNat : Int) P Q = U at *
      generalize chB ((y0 / 2 ^ (3 * k + 1) % 64 % 7).toNat : Int) P Q = V at *
      clear hG HO CH
      go_wp2
      go_roundw
      case rel => exact ⟨k + 1, U, V, by omega, by go_num, hO', e0, e1, e2, by simp [fz0], by simp [fz1], by simp [fz2], store_keep (store_keep (store_keep y0' (by simp)) (by simp)) (by simp), store_keep (store_keep (store_keep y1 (by simp)) (by simp)) (by simp), store_keep (store_keep (store_keep y2 (by simp)) (by simp)) (by simp), by simp [fy0'], by simp [fy1], by simp [fy2], ((hB.setCell (by simp) _).setCell (by simp) _).setCell (by simp) _⟩
      case measure => simp [intOf]; omega
    · obtain rfl : k = s := by omega
      obtain ⟨e0, e1, e2⟩ := three_stores (u0 := .int .i64 (k : Int)) (u1 := .int .i64 P) (u2 := .int .i64 Q) y0' y1 y2
      go_wp2
      exact bodyPost_ret (v := .agg #[.int .i64 (k : Int), .int .i64 P, .int .i64 Q]) (by simp [results, Tryz.results21, go_sem, e0, e1, e2]) rfl ⟨⟨P, Q, rfl, HO.out⟩, ((hB.setCell (by simp) _).setCell (by simp) _).setCell (by simp) _⟩

/-- SOME: a cell that may be. -/
theorem csome_any (x0 y0 r0 : Int) : ∃ s : Int, 0 ≤ s ∧ s ≤ 12 ∧ ∀ w, Calls Tryz.prog 21 #[.int .i64 x0, .int .i64 y0, .int .i64 r0] w fun e w' => TellsS s e ∧ Below w.heap.size w w' := by
  obtain ⟨t, s, K, ht, hs, t1, t2, hK, hr⟩ := size13 r0
  refine ⟨s, by omega, by omega, fun w => ?_⟩
  cases h0 : (bits .and .i64 y0 1 == 0) with
  | true =>
    obtain ⟨u, v, hw, PT⟩ := point_any x0 y0
    obtain ⟨a, b, hn⟩ := nearest_some (dvK_box (K := K) hK).1 (nuA K u v) (nuB K u v)
    exact (csome_point x0 y0 r0 t s _ u v a b ht hs t1 t2 rfl h0 PT (rnear_at u v s K hK hr hw a b hn) w).mono fun e w' ⟨he, hb⟩ => ⟨⟨a, b, he, near_ok hK hr hw hn⟩, hb⟩
  | false =>
    obtain ⟨n, rfl⟩ := Int.eq_ofNat_of_zero_le (show 0 ≤ s by omega)
    exact csome_down x0 y0 r0 t n (by omega) _ ht hs t1 t2 rfl h0 w
end Go.Proofs.YtlipbdiijjfheaaGreatDoor
