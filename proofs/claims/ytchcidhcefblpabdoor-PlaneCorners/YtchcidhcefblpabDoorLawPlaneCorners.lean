/-
  The law PlaneCorners answers true for every number of the lattice and every size, in whatever memory where the package's table of ways holds what its text lays: opposite corners lie as far on either side of the centre, and all six together lie about it.
-/
import Derived.Test.YtchcidhcefblpabDoorPWidth
import Derived.Test.YtchcidhcefblpabDoorPHex
import Derived.Test.YtchcidhcefblpabDoorPPoint
import Derived.Test.YtchcidhcefblpabDoorEqPair
import Derived.BigRegion
namespace Go.Proofs.YtchcidhcefblpabDoor
open Go.RowKit

theorem hex_full {B : Nat} {G : Nat → Int} {w : World} (h : HexRel B G 6 w) (o : Nat) (ho : o < 12) : w.cell? ⟨B, o, none⟩ = some (.int .i64 (G o)) := by
  have h0 := (h o ho).1
  have e : hexAt G 6 o = G o := if_pos (by omega)
  rwa [e] at h0
/-- Twelve cells that hold the numbers of G. -/
def Hex12 (B : Nat) (G : Nat → Int) (w : World) : Prop := ∀ o < 12, w.cell? ⟨B, o, none⟩ = some (.int .i64 (G o))
theorem Hex12.keep {a b : World} {B : Nat} {G : Nat → Int} (hb : Below a.heap.size a b) (h : Hex12 B G a) : Hex12 B G b := fun o ho => keepCell hb (h o ho)
theorem Hex12.drew {a : World} {B : Nat} {G : Nat → Int} (n : Nat) (h : Hex12 B G a) : Hex12 B G (a.drewN n) := fun o ho => h o ho
theorem Hex12.store {a : World} {B S : Nat} {G : Nat → Int} (hS : B ≠ S) (o : Nat) (v : Value) (h : Hex12 B G a) : Hex12 B G (a.setCell ⟨S, o, none⟩ v) := fun i hi => store_keep (h i hi) (by intro e; exact hS (by have := congrArg Addr.block e; simpa using this.symm))
theorem pair_0 (x y : Int) (w : World) : (Instr.index 33 (.agg #[.int .i64 x, .int .i64 y]) (.int .i64 0)).run Tryd.prog w = .ok (.int .i64 x) w := by kernel_rfl
theorem pair_1 (x y : Int) (w : World) : (Instr.index 33 (.agg #[.int .i64 x, .int .i64 y]) (.int .i64 1)).run Tryd.prog w = .ok (.int .i64 y) w := by kernel_rfl
/-- The sum of the first k of every second number. -/
def sumG (G : Nat → Int) (p : Nat) : Nat → Int
  | 0 => 0
  | k + 1 => sumG G p k + G (2 * k + p)
theorem sumG_box {G : Nat → Int} {p : Nat} (hp : p < 2) (hb : ∀ o < 12, -288230376151711744 ≤ G o ∧ G o ≤ 288230376151711744) : ∀ k : Nat, k ≤ 6 → -(288230376151711744 * (k : Int)) ≤ sumG G p k ∧ sumG G p k ≤ 288230376151711744 * (k : Int)
  | 0, _ => by unfold sumG; omega
  | k + 1, hk => by
    have h1 := sumG_box hp hb k (by omega)
    have h2 := hb (2 * k + p) (by omega)
    show _ ≤ sumG G p k + G (2 * k + p) ∧ sumG G p k + G (2 * k + p) ≤ _
    omega

set_option maxHeartbeats 8000000 in
set_option maxRecDepth 20000 in
theorem corners_core (a0 b0 r0 a b t r x y : Int) (G : Nat → Int) (ha : a0.tmod 4194304 = a) (hb : b0.tmod 4194304 = b) (ht : r0.tmod 13 = t) (hr : (t + 13).tmod 13 = r) (t1 : -13 < t) (t2 : t < 13)
    (x1 : -288230376151711744 ≤ x) (x2 : x ≤ 288230376151711744) (y1 : -288230376151711744 ≤ y) (y2 : y ≤ 288230376151711744) (hG : ∀ o < 12, -288230376151711744 ≤ G o ∧ G o ≤ 288230376151711744)
    (hO0 : ∀ i < 3, G (2 * i) + G (2 * (i + 3)) = 6 * x) (hO1 : ∀ i < 3, G (2 * i + 1) + G (2 * (i + 3) + 1) = 6 * y)
    (C1 : ∀ w, Calls Tryd.prog 8 #[.agg #[.int .i64 a, .int .i64 b], .int .i64 r] w fun e w' => e = .returned (.tuple #[.int .i64 x, .int .i64 y, .bool true]) ∧ Below w.heap.size w w')
    (H1 : ∀ w, Ways w → Calls Tryd.prog 7 #[.agg #[.int .i64 a, .int .i64 b], .int .i64 r] w fun e w' => TellsH w G e w' ∧ Below w.heap.size w w')
    (w : World) (hW : Ways w) :
    Calls Tryd.prog 4 #[.agg #[.int .i64 a0, .int .i64 b0], .int .i64 r0] w fun e w' => e = .returned (.bool true) ∧ Below w.heap.size w w' := by
  have HX0 : sumG G 0 6 = 18 * x := by
    have e0 : G 0 + G 6 = 6 * x := hO0 0 (by omega)
    have e1 : G 2 + G 8 = 6 * x := hO0 1 (by omega)
    have e2 : G 4 + G 10 = 6 * x := hO0 2 (by omega)
    have e : sumG G 0 6 = 0 + G 0 + G 2 + G 4 + G 6 + G 8 + G 10 := rfl
    omega
  have HX1 : sumG G 1 6 = 18 * y := by
    have e0 : G 1 + G 7 = 6 * y := hO1 0 (by omega)
    have e1 : G 3 + G 9 = 6 * y := hO1 1 (by omega)
    have e2 : G 5 + G 11 = 6 * y := hO1 2 (by omega)
    have e : sumG G 1 6 = 0 + G 1 + G 3 + G 5 + G 7 + G 9 + G 11 := rfl
    omega
  have hS0 := sumG_box (p := 0) (by omega) hG
  have hS1 := sumG_box (p := 1) (by omega) hG
  replace HX0 : Hid _ := HX0
  replace HX1 : Hid _ := HX1
  replace C1 : Hid _ := C1
  replace H1 : Hid _ := H1
  have hW0 : Hid (Ways w) := hW
  clear hW
  go_enter Tryd.func4, Tryd.ntmps4
  go_wp2_with fail
  refine (C1.out _).mono ?_
  rintro e w1 ⟨rfl, d1⟩
  have c1 : Below w.heap.size w w1 := Below.trans (by go_grown) (d1.mono (by simp; try omega))
  have p0 : w1.cell? ⟨w.heap.size, 0, none⟩ = some (.int .i64 a) := keepCell d1 (by go_simp)
  have qp0 := World.block_lt_of_cell? _ _ p0
  have p1 : w1.cell? ⟨w.heap.size, 1, none⟩ = some (.int .i64 b) := keepCell d1 (by go_simp)
  have hB := c1
  clear c1 d1
  have hz : w.heap.size < w1.heap.size := qp0
  go_wp2_with fail
  refine (H1.out _ ?_).mono ?_
  · exact hW0.out.below (belowT hB (by go_grown))
  rintro e w2 ⟨⟨Bk, hk, rfl, hR⟩, d2⟩
  have c2 : Below w1.heap.size w1 w2 := Below.trans (by go_grown) (d2.mono (by simp; try omega))
  replace p0 := keepCell c2 p0
  replace qp0 := World.block_lt_of_cell? _ _ p0
  replace p1 := keepCell c2 p1
  replace hB := belowT hB c2
  clear c2 d2
  have hH : Hid (Hex12 Bk G w2) := hex_full hR
  have hk1 : w.heap.size ≤ Bk := by omega
  have hk2 : Bk < w2.heap.size := World.block_lt_of_cell? _ _ (hR 0 (by omega)).1
  clear hR p0 p1 qp0 hW0 H1 C1
  go_wp2_with fail
  go_loopw [10] (fun v10 wr => ∃ i : Nat, i ≤ 3 ∧ v10 = .int .i64 (i : Int) ∧ Hid (Hex12 Bk G wr) ∧ Below w.heap.size w wr) (fun v10 _ => 3 - (intOf v10).toNat)
  case atStart => exact ⟨0, by omega, rfl, hH, hB⟩
  case round =>
    clear hH hB
    obtain ⟨i, hi, rfl, hH, hB⟩ := hrel
    have ci : i = 0 ∨ i = 1 ∨ i = 2 ∨ i = 3 := by omega
    rcases ci with rfl | rfl | rfl | rfl
    · go_wp2
      go_loopw [11] (fun v11 wr => ∃ k : Nat, k ≤ 2 ∧ v11 = .int .i64 (k : Int) ∧ Hid (Hex12 Bk G wr) ∧ Below w.heap.size w wr) (fun v11 _ => 2 - (intOf v11).toNat)
      case atStart => exact ⟨0, by omega, rfl, hH, hB⟩
      case round =>
        clear hH hB
        obtain ⟨k, hk, rfl, hH, hB⟩ := hrel
        replace hH := hH.out
        have ck : k = 0 ∨ k = 1 ∨ k = 2 := by omega
        rcases ck with rfl | rfl | rfl
        · obtain ⟨u, hu⟩ : ∃ u, G 0 = u := ⟨_, rfl⟩
          obtain ⟨v, hv⟩ : ∃ v, G 6 = v := ⟨_, rfl⟩
          have f0 := hH 0 (by omega)
          have f1 := hH 6 (by omega)
          have bu := hG 0 (by omega)
          have bv := hG 6 (by omega)
          have hq : u + v = 6 * x := by rw [← hu, ← hv]; exact hO0 0 (by omega)
          rw [hu] at f0 bu
          rw [hv] at f1 bv
          obtain ⟨bu1, bu2⟩ := bu
          obtain ⟨bv1, bv2⟩ := bv
          replace hq : (u + v == 6 * x) = true := beq_iff_eq.2 hq
          replace hH : Hid (Hex12 Bk G wr) := hH
          have HX := pair_0
          clear hu hv
          go_wp2
          go_quiet (fail)
          go_wp2
          go_roundw
          case rel => exact ⟨1, by omega, by go_num, hH.out.drew _, belowN hB _⟩
          case measure => simp [intOf]
        · obtain ⟨u, hu⟩ : ∃ u, G 1 = u := ⟨_, rfl⟩
          obtain ⟨v, hv⟩ : ∃ v, G 7 = v := ⟨_, rfl⟩
          have f0 := hH 1 (by omega)
          have f1 := hH 7 (by omega)
          have bu := hG 1 (by omega)
          have bv := hG 7 (by omega)
          have hq : u + v = 6 * y := by rw [← hu, ← hv]; exact hO1 0 (by omega)
          rw [hu] at f0 bu
          rw [hv] at f1 bv
          obtain ⟨bu1, bu2⟩ := bu
          obtain ⟨bv1, bv2⟩ := bv
          replace hq : (u + v == 6 * y) = true := beq_iff_eq.2 hq
          replace hH : Hid (Hex12 Bk G wr) := hH
          have HX := pair_1
          clear hu hv
          go_wp2
          go_quiet (fail)
          go_wp2
          go_roundw
          case rel => exact ⟨2, by omega, by go_num, hH.out.drew _, belowN hB _⟩
          case measure => simp [intOf]
        · replace hH : Hid (Hex12 Bk G wr) := hH
          go_wp2
          go_roundw
          case rel => exact ⟨1, by omega, by go_num, hH, hB⟩
          case measure => simp [intOf]
    · go_wp2
      go_loopw [11] (fun v11 wr => ∃ k : Nat, k ≤ 2 ∧ v11 = .int .i64 (k : Int) ∧ Hid (Hex12 Bk G wr) ∧ Below w.heap.size w wr) (fun v11 _ => 2 - (intOf v11).toNat)
      case atStart => exact ⟨0, by omega, rfl, hH, hB⟩
      case round =>
        clear hH hB
        obtain ⟨k, hk, rfl, hH, hB⟩ := hrel
        replace hH := hH.out
        have ck : k = 0 ∨ k = 1 ∨ k = 2 := by omega
        rcases ck with rfl | rfl | rfl
        · obtain ⟨u, hu⟩ : ∃ u, G 2 = u := ⟨_, rfl⟩
          obtain ⟨v, hv⟩ : ∃ v, G 8 = v := ⟨_, rfl⟩
          have f0 := hH 2 (by omega)
          have f1 := hH 8 (by omega)
          have bu := hG 2 (by omega)
          have bv := hG 8 (by omega)
          have hq : u + v = 6 * x := by rw [← hu, ← hv]; exact hO0 1 (by omega)
          rw [hu] at f0 bu
          rw [hv] at f1 bv
          obtain ⟨bu1, bu2⟩ := bu
          obtain ⟨bv1, bv2⟩ := bv
          replace hq : (u + v == 6 * x) = true := beq_iff_eq.2 hq
          replace hH : Hid (Hex12 Bk G wr) := hH
          have HX := pair_0
          clear hu hv
          go_wp2
          go_quiet (fail)
          go_wp2
          go_roundw
          case rel => exact ⟨1, by omega, by go_num, hH.out.drew _, belowN hB _⟩
          case measure => simp [intOf]
        · obtain ⟨u, hu⟩ : ∃ u, G 3 = u := ⟨_, rfl⟩
          obtain ⟨v, hv⟩ : ∃ v, G 9 = v := ⟨_, rfl⟩
          have f0 := hH 3 (by omega)
          have f1 := hH 9 (by omega)
          have bu := hG 3 (by omega)
          have bv := hG 9 (by omega)
          have hq : u + v = 6 * y := by rw [← hu, ← hv]; exact hO1 1 (by omega)
          rw [hu] at f0 bu
          rw [hv] at f1 bv
          obtain ⟨bu1, bu2⟩ := bu
          obtain ⟨bv1, bv2⟩ := bv
          replace hq : (u + v == 6 * y) = true := beq_iff_eq.2 hq
          replace hH : Hid (Hex12 Bk G wr) := hH
          have HX := pair_1
          clear hu hv
          go_wp2
          go_quiet (fail)
          go_wp2
          go_roundw
          case rel => exact ⟨2, by omega, by go_num, hH.out.drew _, belowN hB _⟩
          case measure => simp [intOf]
        · replace hH : Hid (Hex12 Bk G wr) := hH
          go_wp2
          go_roundw
          case rel => exact ⟨2, by omega, by go_num, hH, hB⟩
          case measure => simp [intOf]
    · go_wp2
      go_loopw [11] (fun v11 wr => ∃ k : Nat, k ≤ 2 ∧ v11 = .int .i64 (k : Int) ∧ Hid (Hex12 Bk G wr) ∧ Below w.heap.size w wr) (fun v11 _ => 2 - (intOf v11).toNat)
      case atStart => exact ⟨0, by omega, rfl, hH, hB⟩
      case round =>
        clear hH hB
        obtain ⟨k, hk, rfl, hH, hB⟩ := hrel
        replace hH := hH.out
        have ck : k = 0 ∨ k = 1 ∨ k = 2 := by omega
        rcases ck with rfl | rfl | rfl
        · obtain ⟨u, hu⟩ : ∃ u, G 4 = u := ⟨_, rfl⟩
          obtain ⟨v, hv⟩ : ∃ v, G 10 = v := ⟨_, rfl⟩
          have f0 := hH 4 (by omega)
          have f1 := hH 10 (by omega)
          have bu := hG 4 (by omega)
          have bv := hG 10 (by omega)
          have hq : u + v = 6 * x := by rw [← hu, ← hv]; exact hO0 2 (by omega)
          rw [hu] at f0 bu
          rw [hv] at f1 bv
          obtain ⟨bu1, bu2⟩ := bu
          obtain ⟨bv1, bv2⟩ := bv
          replace hq : (u + v == 6 * x) = true := beq_iff_eq.2 hq
          replace hH : Hid (Hex12 Bk G wr) := hH
          have HX := pair_0
          clear hu hv
          go_wp2
          go_quiet (fail)
          go_wp2
          go_roundw
          case rel => exact ⟨1, by omega, by go_num, hH.out.drew _, belowN hB _⟩
          case measure => simp [intOf]
        · obtain ⟨u, hu⟩ : ∃ u, G 5 = u := ⟨_, rfl⟩
          obtain ⟨v, hv⟩ : ∃ v, G 11 = v := ⟨_, rfl⟩
          have f0 := hH 5 (by omega)
          have f1 := hH 11 (by omega)
          have bu := hG 5 (by omega)
          have bv := hG 11 (by omega)
          have hq : u + v = 6 * y := by rw [← hu, ← hv]; exact hO1 2 (by omega)
          rw [hu] at f0 bu
          rw [hv] at f1 bv
          obtain ⟨bu1, bu2⟩ := bu
          obtain ⟨bv1, bv2⟩ := bv
          replace hq : (u + v == 6 * y) = true := beq_iff_eq.2 hq
          replace hH : Hid (Hex12 Bk G wr) := hH
          have HX := pair_1
          clear hu hv
          go_wp2
          go_quiet (fail)
          go_wp2
          go_roundw
          case rel => exact ⟨2, by omega, by go_num, hH.out.drew _, belowN hB _⟩
          case measure => simp [intOf]
        · replace hH : Hid (Hex12 Bk G wr) := hH
          go_wp2
          go_roundw
          case rel => exact ⟨3, by omega, by go_num, hH, hB⟩
          case measure => simp [intOf]
    · go_wp2
      have hBS : Bk ≠ wr.heap.size := by have := World.block_lt_of_cell? _ _ (hH.out 0 (by omega)); simp at this; omega
      have hSw : w.heap.size ≤ wr.heap.size := hB.size
      have hA := allocB wr (.cells #[.int .i64 0, .int .i64 0] 33)
      have hH' : Hid (Hex12 Bk G (wr.alloc (.cells #[.int .i64 0, .int .i64 0] 33))) := hH.out.keep hA
      have hB' := belowT hB hA
      obtain ⟨S, hS⟩ : ∃ S, wr.heap.size = S := ⟨_, rfl⟩
      rw [hS] at hBS hSw
      have a0' : (wr.alloc (.cells #[.int .i64 0, .int .i64 0] 33)).cell? ⟨S, 0, none⟩ = some (.int .i64 0) := by rw [← hS]; go_simp
      have a1' : (wr.alloc (.cells #[.int .i64 0, .int .i64 0] 33)).cell? ⟨S, 1, none⟩ = some (.int .i64 0) := by rw [← hS]; go_simp
      have b0' : (wr.alloc (.cells #[.int .i64 0, .int .i64 0] 33)).frozen? ⟨S, 0, none⟩ = false := by rw [← hS]; go_simp
      have b1' : (wr.alloc (.cells #[.int .i64 0, .int .i64 0] 33)).frozen? ⟨S, 1, none⟩ = false := by rw [← hS]; go_simp
      rw [hS]
      clear hH hB hA hS
      generalize wr.alloc (.cells #[.int .i64 0, .int .i64 0] 33) = wc at *
      go_loopw [13] (fun v13 wr => ∃ i : Nat, i ≤ 6 ∧ v13 = .int .i64 (i : Int) ∧ Hid (Hex12 Bk G wr) ∧ wr.cell? ⟨S, 0, none⟩ = some (.int .i64 (sumG G 0 i)) ∧ wr.cell? ⟨S, 1, none⟩ = some (.int .i64 (sumG G 1 i)) ∧ wr.frozen? ⟨S, 0, none⟩ = false ∧ wr.frozen? ⟨S, 1, none⟩ = false ∧ Below w.heap.size w wr) (fun v13 _ => 6 - (intOf v13).toNat)
      case atStart => exact ⟨0, by omega, rfl, hH', a0', a1', b0', b1', hB'⟩
      case round =>
        clear hH' hB' a0' a1' b0' b1'
        obtain ⟨i, hi, rfl, hH, s0, s1, fs0, fs1, hB⟩ := hrel
        have ci : i = 0 ∨ i = 1 ∨ i = 2 ∨ i = 3 ∨ i = 4 ∨ i = 5 ∨ i = 6 := by omega
        rcases ci with rfl | rfl | rfl | rfl | rfl | rfl | rfl
        · obtain ⟨u, hu⟩ : ∃ u, G 0 = u := ⟨_, rfl⟩
          obtain ⟨v, hv⟩ : ∃ v, G 1 = v := ⟨_, rfl⟩
          obtain ⟨m, hm⟩ : ∃ m, sumG G 0 0 = m := ⟨_, rfl⟩
          obtain ⟨n, hn⟩ : ∃ n, sumG G 1 0 = n := ⟨_, rfl⟩
          have f0 := hH.out 0 (by omega)
          have f1 := hH.out 1 (by omega)
          have bu := hG 0 (by omega)
          have bv := hG 1 (by omega)
          have bm := hS0 0 (by omega)
          have bn := hS1 0 (by omega)
          have em : Hid (sumG G 0 1 = m + u) := by show sumG G 0 0 + G 0 = _; rw [hm, hu]
          have en : Hid (sumG G 1 1 = n + v) := by show sumG G 1 0 + G 1 = _; rw [hn, hv]
          rw [hu] at f0 bu
          rw [hv] at f1 bv
          rw [hm] at s0 bm
          rw [hn] at s1 bn
          obtain ⟨bu1, bu2⟩ := bu
          obtain ⟨bv1, bv2⟩ := bv
          obtain ⟨bm1, bm2⟩ := bm
          obtain ⟨bn1, bn2⟩ := bn
          clear hu hv hm hn
          go_wp2
          go_big_region
          all_goals
            go_wp2
            go_roundw
            case rel => exact ⟨1, by omega, by go_num, ((hH.out.store hBS 0 _).store hBS 1 _).drew 1, by rw [em.out]; go_simp, by rw [en.out]; go_simp, by go_simp, by go_simp, by go_grown⟩
            case measure => simp [intOf]
        · obtain ⟨u, hu⟩ : ∃ u, G 2 = u := ⟨_, rfl⟩
          obtain ⟨v, hv⟩ : ∃ v, G 3 = v := ⟨_, rfl⟩
          obtain ⟨m, hm⟩ : ∃ m, sumG G 0 1 = m := ⟨_, rfl⟩
          obtain ⟨n, hn⟩ : ∃ n, sumG G 1 1 = n := ⟨_, rfl⟩
          have f0 := hH.out 2 (by omega)
          have f1 := hH.out 3 (by omega)
          have bu := hG 2 (by omega)
          have bv := hG 3 (by omega)
          have bm := hS0 1 (by omega)
          have bn := hS1 1 (by omega)
          have em : Hid (sumG G 0 2 = m + u) := by show sumG G 0 1 + G 2 = _; rw [hm, hu]
          have en : Hid (sumG G 1 2 = n + v) := by show sumG G 1 1 + G 3 = _; rw [hn, hv]
          rw [hu] at f0 bu
          rw [hv] at f1 bv
          rw [hm] at s0 bm
          rw [hn] at s1 bn
          obtain ⟨bu1, bu2⟩ := bu
          obtain ⟨bv1, bv2⟩ := bv
          obtain ⟨bm1, bm2⟩ := bm
          obtain ⟨bn1, bn2⟩ := bn
          clear hu hv hm hn
          go_wp2
          go_big_region
          all_goals
            go_wp2
            go_roundw
            case rel => exact ⟨2, by omega, by go_num, ((hH.out.store hBS 0 _).store hBS 1 _).drew 1, by rw [em.out]; go_simp, by rw [en.out]; go_simp, by go_simp, by go_simp, by go_grown⟩
            case measure => simp [intOf]
        · obtain ⟨u, hu⟩ : ∃ u, G 4 = u := ⟨_, rfl⟩
          obtain ⟨v, hv⟩ : ∃ v, G 5 = v := ⟨_, rfl⟩
          obtain ⟨m, hm⟩ : ∃ m, sumG G 0 2 = m := ⟨_, rfl⟩
          obtain ⟨n, hn⟩ : ∃ n, sumG G 1 2 = n := ⟨_, rfl⟩
          have f0 := hH.out 4 (by omega)
          have f1 := hH.out 5 (by omega)
          have bu := hG 4 (by omega)
          have bv := hG 5 (by omega)
          have bm := hS0 2 (by omega)
          have bn := hS1 2 (by omega)
          have em : Hid (sumG G 0 3 = m + u) := by show sumG G 0 2 + G 4 = _; rw [hm, hu]
          have en : Hid (sumG G 1 3 = n + v) := by show sumG G 1 2 + G 5 = _; rw [hn, hv]
          rw [hu] at f0 bu
          rw [hv] at f1 bv
          rw [hm] at s0 bm
          rw [hn] at s1 bn
          obtain ⟨bu1, bu2⟩ := bu
          obtain ⟨bv1, bv2⟩ := bv
          obtain ⟨bm1, bm2⟩ := bm
          obtain ⟨bn1, bn2⟩ := bn
          clear hu hv hm hn
          go_wp2
          go_big_region
          all_goals
            go_wp2
            go_roundw
            case rel => exact ⟨3, by omega, by go_num, ((hH.out.store hBS 0 _).store hBS 1 _).drew 1, by rw [em.out]; go_simp, by rw [en.out]; go_simp, by go_simp, by go_simp, by go_grown⟩
            case measure => simp [intOf]
        · obtain ⟨u, hu⟩ : ∃ u, G 6 = u := ⟨_, rfl⟩
          obtain ⟨v, hv⟩ : ∃ v, G 7 = v := ⟨_, rfl⟩
          obtain ⟨m, hm⟩ : ∃ m, sumG G 0 3 = m := ⟨_, rfl⟩
          obtain ⟨n, hn⟩ : ∃ n, sumG G 1 3 = n := ⟨_, rfl⟩
          have f0 := hH.out 6 (by omega)
          have f1 := hH.out 7 (by omega)
          have bu := hG 6 (by omega)
          have bv := hG 7 (by omega)
          have bm := hS0 3 (by omega)
          have bn := hS1 3 (by omega)
          have em : Hid (sumG G 0 4 = m + u) := by show sumG G 0 3 + G 6 = _; rw [hm, hu]
          have en : Hid (sumG G 1 4 = n + v) := by show sumG G 1 3 + G 7 = _; rw [hn, hv]
          rw [hu] at f0 bu
          rw [hv] at f1 bv
          rw [hm] at s0 bm
          rw [hn] at s1 bn
          obtain ⟨bu1, bu2⟩ := bu
          obtain ⟨bv1, bv2⟩ := bv
          obtain ⟨bm1, bm2⟩ := bm
          obtain ⟨bn1, bn2⟩ := bn
          clear hu hv hm hn
          go_wp2
          go_big_region
          all_goals
            go_wp2
            go_roundw
            case rel => exact ⟨4, by omega, by go_num, ((hH.out.store hBS 0 _).store hBS 1 _).drew 1, by rw [em.out]; go_simp, by rw [en.out]; go_simp, by go_simp, by go_simp, by go_grown⟩
            case measure => simp [intOf]
        · obtain ⟨u, hu⟩ : ∃ u, G 8 = u := ⟨_, rfl⟩
          obtain ⟨v, hv⟩ : ∃ v, G 9 = v := ⟨_, rfl⟩
          obtain ⟨m, hm⟩ : ∃ m, sumG G 0 4 = m := ⟨_, rfl⟩
          obtain ⟨n, hn⟩ : ∃ n, sumG G 1 4 = n := ⟨_, rfl⟩
          have f0 := hH.out 8 (by omega)
          have f1 := hH.out 9 (by omega)
          have bu := hG 8 (by omega)
          have bv := hG 9 (by omega)
          have bm := hS0 4 (by omega)
          have bn := hS1 4 (by omega)
          have em : Hid (sumG G 0 5 = m + u) := by show sumG G 0 4 + G 8 = _; rw [hm, hu]
          have en : Hid (sumG G 1 5 = n + v) := by show sumG G 1 4 + G 9 = _; rw [hn, hv]
          rw [hu] at f0 bu
          rw [hv] at f1 bv
          rw [hm] at s0 bm
          rw [hn] at s1 bn
          obtain ⟨bu1, bu2⟩ := bu
          obtain ⟨bv1, bv2⟩ := bv
          obtain ⟨bm1, bm2⟩ := bm
          obtain ⟨bn1, bn2⟩ := bn
          clear hu hv hm hn
          go_wp2
          go_big_region
          all_goals
            go_wp2
            go_roundw
            case rel => exact ⟨5, by omega, by go_num, ((hH.out.store hBS 0 _).store hBS 1 _).drew 1, by rw [em.out]; go_simp, by rw [en.out]; go_simp, by go_simp, by go_simp, by go_grown⟩
            case measure => simp [intOf]
        · obtain ⟨u, hu⟩ : ∃ u, G 10 = u := ⟨_, rfl⟩
          obtain ⟨v, hv⟩ : ∃ v, G 11 = v := ⟨_, rfl⟩
          obtain ⟨m, hm⟩ : ∃ m, sumG G 0 5 = m := ⟨_, rfl⟩
          obtain ⟨n, hn⟩ : ∃ n, sumG G 1 5 = n := ⟨_, rfl⟩
          have f0 := hH.out 10 (by omega)
          have f1 := hH.out 11 (by omega)
          have bu := hG 10 (by omega)
          have bv := hG 11 (by omega)
          have bm := hS0 5 (by omega)
          have bn := hS1 5 (by omega)
          have em : Hid (sumG G 0 6 = m + u) := by show sumG G 0 5 + G 10 = _; rw [hm, hu]
          have en : Hid (sumG G 1 6 = n + v) := by show sumG G 1 5 + G 11 = _; rw [hn, hv]
          rw [hu] at f0 bu
          rw [hv] at f1 bv
          rw [hm] at s0 bm
          rw [hn] at s1 bn
          obtain ⟨bu1, bu2⟩ := bu
          obtain ⟨bv1, bv2⟩ := bv
          obtain ⟨bm1, bm2⟩ := bm
          obtain ⟨bn1, bn2⟩ := bn
          clear hu hv hm hn
          go_wp2
          go_big_region
          all_goals
            go_wp2
            go_roundw
            case rel => exact ⟨6, by omega, by go_num, ((hH.out.store hBS 0 _).store hBS 1 _).drew 1, by rw [em.out]; go_simp, by rw [en.out]; go_simp, by go_simp, by go_simp, by go_grown⟩
            case measure => simp [intOf]
        · rw [HX0.out] at s0
          rw [HX1.out] at s1
          clear fs0 fs1 hS0 hS1 HX0 HX1 hG hO0 hO1
          have HE := eq_pair
          go_wp2_with fail
          refine (awake3 _).mono ?_
          rintro e v1 ⟨rfl, d1⟩
          have c1 : Below wr.heap.size wr v1 := Below.trans (by go_grown) (d1.mono (by simp; try omega))
          replace s0 := keepCell c1 s0
          replace s1 := keepCell c1 s1
          replace hB := belowT hB c1
          clear c1 d1
          go_wp2
          go_ret
          exact ⟨rfl, hB⟩

theorem co_box {K : Nat} {a b p q : Int} (hK : K ≤ 12) (ha : In30 a) (hb : In30 b) (p1 : -2 ≤ p) (p2 : p ≤ 2) (q1 : -2 ≤ q) (q2 : q ≤ 2) : -288230376151711744 ≤ coX K a b p q ∧ coX K a b p q ≤ 288230376151711744 ∧ -288230376151711744 ≤ coY K a b p q ∧ coY K a b p q ≤ 288230376151711744 := by
  obtain ⟨a1, a2⟩ := ha
  obtain ⟨b1, b2⟩ := hb
  have hc := ct_box (a := 3 * a + p) (b := 3 * b + q) hK (by omega) (by omega)
  unfold coX coY poX poY
  omega
theorem hexG_box {K : Nat} {a b : Int} (hK : K ≤ 12) (ha : In30 a) (hb : In30 b) (o : Nat) (ho : o < 12) : -288230376151711744 ≤ hexG K a b o ∧ hexG K a b o ≤ 288230376151711744 := by
  have hw := way_box (o / 2) (by omega)
  have h := co_box hK ha hb hw.1 hw.2.1 hw.2.2.1 hw.2.2.2
  unfold hexG
  split <;> omega
theorem hex_opp (K : Nat) (a b : Int) (i : Nat) (hi : i < 3) : hexG K a b (2 * i) + hexG K a b (2 * (i + 3)) = 6 * poX K a b ∧ hexG K a b (2 * i + 1) + hexG K a b (2 * (i + 3) + 1) = 6 * poY K a b := by
  rw [hexG_even, hexG_even, hexG_odd, hexG_odd]
  have h : wayA (i + 3) = -wayA i ∧ wayB (i + 3) = -wayB i := by
    have c : i = 0 ∨ i = 1 ∨ i = 2 := by omega
    rcases c with rfl | rfl | rfl <;> decide
  rw [h.1, h.2]
  exact co_mirror K a b _ _

theorem planeCorners_walk (a0 b0 r0 : Int) (w : World) (hW : Ways w) :
    Calls Tryd.prog 4 #[.agg #[.int .i64 a0, .int .i64 b0], .int .i64 r0] w fun e w' => e = .returned (.bool true) ∧ Below w.heap.size w w' := by
  obtain ⟨t, r, K, ht, hr, t1, t2, hK, hs⟩ := size13 r0
  have ba := tmod_box a0 4194304 (by omega)
  have bb := tmod_box b0 4194304 (by omega)
  have ha : In30 (a0.tmod 4194304) := ⟨by omega, by omega⟩
  have hb : In30 (b0.tmod 4194304) := ⟨by omega, by omega⟩
  have hc := ct_box (a := a0.tmod 4194304) (b := b0.tmod 4194304) hK (by omega) (by omega)
  refine corners_core a0 b0 r0 _ _ t r (poX K (a0.tmod 4194304) (b0.tmod 4194304)) (poY K (a0.tmod 4194304) (b0.tmod 4194304)) (hexG K (a0.tmod 4194304) (b0.tmod 4194304)) rfl rfl ht hr t1 t2 ?_ ?_ ?_ ?_ (fun o ho => hexG_box hK ha hb o ho)
    (fun i hi => (hex_opp K _ _ i hi).1) (fun i hi => (hex_opp K _ _ i hi).2) (pcentre_yes _ _ r K hK hs ha hb) (fun w hW => phex_yes _ _ r K hK hs ha hb w hW) w hW
  all_goals
    first | unfold poX | unfold poY
    omega

end Go.Proofs.YtchcidhcefblpabDoor
