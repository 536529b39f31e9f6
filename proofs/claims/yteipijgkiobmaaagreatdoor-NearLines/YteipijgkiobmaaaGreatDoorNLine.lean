/-
  What Line of package near tells: the words of what is nearest to each part of the way, along it; what is refused; in whatever memory where both tables hold what their texts lay.
-/
import Derived.Test.YteipijgkiobmaaaGreatDoorNPair
import Derived.Test.YteipijgkiobmaaaGreatDoorNRD
import Derived.Test.YteipijgkiobmaaaGreatDoorNB2
import Derived.Test.YteipijgkiobmaaaGreatDoorNB7
namespace Go.Proofs.YteipijgkiobmaaaGreatDoor
open Go.RowKit

/-- The ending that tells what is nearest to a part of the way. -/
def PartSay (n X Y : Int) (e : Ending) : Prop := ∃ x y, e = .returned (.agg #[.int .i64 x, .int .i64 y]) ∧ Nearest n X Y x y

set_option maxHeartbeats 8000000 in
set_option maxRecDepth 20000 in
theorem npart_core (R a b S c d n i U1 V1 U2 V2 : Int) (h0 : 1 ≤ n) (h1 : n ≤ 10000) (hU1 : a * (n - i) = U1) (hV1 : b * (n - i) = V1) (hU2 : c * i = U2) (hV2 : d * i = V2) (i0 : 0 ≤ i) (i1 : i ≤ n)
    (u1 : -4000000000000 ≤ U1 ∧ U1 ≤ 4000000000000) (v1 : -4000000000000 ≤ V1 ∧ V1 ≤ 4000000000000) (u2 : -4000000000000 ≤ U2 ∧ U2 ≤ 4000000000000) (v2 : -4000000000000 ≤ V2 ∧ V2 ≤ 4000000000000) (w : World) :
    Calls Tryz.prog 32 #[.agg #[.int .i64 R, .int .i64 a, .int .i64 b, .int .i64 S, .int .i64 c, .int .i64 d, .int .i64 n], .int .i64 i] w fun e w' => PartSay n (U1 + U2) (V1 + V2) e ∧ Below w.heap.size w w' := by
  have AD := hidd (eadd_small U1 V1 U2 V2 _ _ rfl rfl (by omega) (by omega) (by omega) (by omega) (by omega) (by omega) (by omega) (by omega))
  have RO := hidd (eround_see (U1 + U2) (V1 + V2) n (by omega) (by omega) (by omega) (by omega) (by omega) (by omega))
  have X1 : -8000000000000 ≤ U1 + U2 ∧ U1 + U2 ≤ 8000000000000 := by omega
  have Y1 : -8000000000000 ≤ V1 + V2 ∧ V1 + V2 ≤ 8000000000000 := by omega
  generalize U1 + U2 = X at *
  generalize V1 + V2 = Y at *
  have n0 : (n == 0) = false := by simp; omega
  go_enter Tryz.func32, Tryz.ntmps32
  go_wp2_with fail
  refine (AD.out _).mono ?_
  rintro e w1 ⟨rfl, d1⟩
  have c1 : Below w.heap.size w w1 := Below.trans (by go_grown) (d1.mono (by simp; try omega))
  have p0 : w1.cell? ⟨w.heap.size, 0, none⟩ = some (.int .i64 R) := keepCell d1 (by go_simp)
  have qp0 := World.block_lt_of_cell? _ _ p0
  have p6 : w1.cell? ⟨w.heap.size, 6, none⟩ = some (.int .i64 n) := keepCell d1 (by go_simp)
  have r0 : w1.cell? ⟨w.heap.size + 1, 0, none⟩ = some (.int .i64 0) := keepCell d1 (by go_simp)
  have fr0 : w1.frozen? ⟨w.heap.size + 1, 0, none⟩ = false := keepFrozen (v := .int .i64 0) d1 (by go_simp) (by go_simp)
  have qr0 := World.block_lt_of_cell? _ _ r0
  have r1 : w1.cell? ⟨w.heap.size + 1, 1, none⟩ = some (.int .i64 0) := keepCell d1 (by go_simp)
  have fr1 : w1.frozen? ⟨w.heap.size + 1, 1, none⟩ = false := keepFrozen (v := .int .i64 0) d1 (by go_simp) (by go_simp)
  have hB := c1
  clear c1 d1
  clear AD u1 v1 u2 v2 hU1 hV1 hU2 hV2
  go_wp2_with fail
  refine (RO.out _).mono ?_
  rintro e w2 ⟨⟨x, y, rfl, hN⟩, d2⟩
  have c2 : Below w1.heap.size w1 w2 := Below.trans (by go_grown) (d2.mono (by simp; try omega))
  replace p0 := keepCell c2 p0
  replace qp0 := World.block_lt_of_cell? _ _ p0
  replace p6 := keepCell c2 p6
  replace fr0 := keepFrozen c2 r0 fr0
  replace r0 := keepCell c2 r0
  replace qr0 := World.block_lt_of_cell? _ _ r0
  replace fr1 := keepFrozen c2 r1 fr1
  replace r1 := keepCell c2 r1
  replace hB := belowT hB c2
  clear c2 d2
  replace hN := hidd hN
  obtain ⟨g0, g1⟩ := two_stores (u := .int .i64 x) (v := .int .i64 y) r0 r1
  have e0 := keepCell (allocB _ (.cells #[.int .i64 x, .int .i64 y] 35)) g0
  have e1 := keepCell (allocB _ (.cells #[.int .i64 x, .int .i64 y] 35)) g1
  go_wp2
  exact bodyPost_ret (v := .agg #[.int .i64 x, .int .i64 y]) (by simp [results, Tryz.results32, go_sem, e0, e1]) rfl ⟨⟨x, y, rfl, hN.out⟩, ((hB.setCell (by simp) _).setCell (by simp) _).alloc (by simp; omega) _⟩

theorem line_part {a i N m : Int} (ha : -500000000 ≤ a ∧ a ≤ 500000000) (h0 : 0 ≤ i) (h1 : i ≤ N) (hN : N ≤ 10000) (hm : a * i = m) : -5000000000000 ≤ m ∧ m ≤ 5000000000000 := by
  have := mul_in (a := a) (b := i) (A := 500000000) (B := 10000) ha (by omega)
  omega
/-- PART: the place on a line. -/
theorem npart_line {n p q a b c d : Int} {f : Nat → Int × Int} (hL : OnLine n p q f) (hp : c - a = p) (hq : d - b = q) (hn : n ≤ 10000) (R S : Int) (ha : -400000000 ≤ a ∧ a ≤ 400000000) (hb : -400000000 ≤ b ∧ b ≤ 400000000) (hc : -400000000 ≤ c ∧ c ≤ 400000000) (hd : -400000000 ≤ d ∧ d ≤ 400000000) (j : Nat) (hj : (j : Int) ≤ n) (w : World) :
    Calls Tryz.prog 32 #[.agg #[.int .i64 R, .int .i64 a, .int .i64 b, .int .i64 S, .int .i64 c, .int .i64 d, .int .i64 n], .int .i64 (j : Int)] w fun e w' => e = .returned (.agg #[.int .i64 (a + (f j).1), .int .i64 (b + (f j).2)]) ∧ Below w.heap.size w w' := by
  have m1 := mul_in (a := a) (b := n - j) (A := 400000000) (B := 10000) ha (by omega)
  have m2 := mul_in (a := b) (b := n - j) (A := 400000000) (B := 10000) hb (by omega)
  have m3 := mul_in (a := c) (b := (j : Int)) (A := 400000000) (B := 10000) hc (by omega)
  have m4 := mul_in (a := d) (b := (j : Int)) (A := 400000000) (B := 10000) hd (by omega)
  refine (npart_core R a b S c d n j _ _ _ _ hL.1 hn rfl rfl rfl rfl (by omega) hj (by omega) (by omega) (by omega) (by omega) w).mono fun e w' ⟨⟨x, y, he, hN⟩, hb'⟩ => ⟨?_, hb'⟩
  rw [Int.mul_comm a, Int.mul_comm b, Int.mul_comm c, Int.mul_comm d] at hN
  have := hL.at' hp hq hN
  rw [he, this.1, this.2]

theorem at6_row {B : Nat} {r x y : Int} {L : List Int} {w : World} (h : At6 B r x y L w) : ∃ s, w.cell? ⟨B, 3, none⟩ = some s ∧ RowAt (B + 1) w s L := by
  obtain ⟨v, hT, hO⟩ := h
  refine ⟨v, hT.2.2.2.1, ?_⟩
  rcases hO.2 with ⟨hv, h0⟩ | ⟨g, cap, cur, hv, _⟩
  · exact Or.inl ⟨List.length_eq_zero_iff.1 h0, hv⟩
  · subst hv
    have hc := own_cells hO
    exact Or.inr ⟨g, cap, rfl, hc.2.2.1, hc.2.1⟩
theorem at6_line (w : World) (r a b : Int) (o : Obj) (T2 : TypeId) : At6 (w.heap.size + 1) r a b [] ((w.alloc o).alloc (.cells #[.int .i64 r, .int .i64 a, .int .i64 b, .slice none 0 0] T2)) :=
  ⟨.slice none 0 0, ⟨by go_simp, by go_simp, by go_simp, by go_simp, by go_simp, by go_simp, by go_simp, by go_simp⟩, own_nil⟩

set_option maxHeartbeats 8000000 in
set_option maxRecDepth 20000 in
/-- LINE: the words along the way from cell to cell; what part tells of each round is given. -/
theorem nline_core (r : Nat) (a b c d n : Int) (h0 : 0 ≤ n) (h1 : n ≤ 10000) (v u : Int) (f : Nat → Int × Int)
    (PA : ∀ w, Tabs w → Calls Tryz.prog 31 #[.int .u64 v, .int .u64 u] w fun e w' => e = .returned (.tuple #[.agg #[.int .i64 r, .int .i64 a, .int .i64 b, .int .i64 r, .int .i64 c, .int .i64 d, .int .i64 n], .int .i64 0]) ∧ Below w.heap.size w w')
    (PT : ∀ (j : Nat), (j : Int) ≤ n → ∀ w, Calls Tryz.prog 32 #[.agg #[.int .i64 r, .int .i64 a, .int .i64 b, .int .i64 r, .int .i64 c, .int .i64 d, .int .i64 n], .int .i64 (j : Int)] w fun e w' => e = .returned (.agg #[.int .i64 (a + (f j).1), .int .i64 (b + (f j).2)]) ∧ Below w.heap.size w w')
    (w : World) (hT : Tabs w) :
    Calls Tryz.prog 10 #[.int .u64 v, .int .u64 u] w fun e w' => RowSay w.heap.size (wordsAt r a b (lineP f (n.toNat + 1))) e w' ∧ Below w.heap.size w w' := by
  replace PA := hidd PA
  replace PT := hidd PT
  obtain ⟨N, rfl⟩ : ∃ N : Nat, n = N := ⟨n.toNat, by omega⟩
  rw [show ((N : Int)).toNat = N by omega]
  have TK : Hid (∀ (j B : Nat) (w : World), j ≤ N → At6 B (r : Int) (a + (f j).1) (b + (f j).2) (wordsAt r a b (lineP f j)) w → Tabs w → Calls Tryz.prog 33 #[.pointer (some ⟨B, 0, none⟩)] w fun e w' => e = .returned (.tuple #[]) ∧ At6 B (r : Int) (a + (f j).1) (b + (f j).2) (wordsAt r a b (lineP f (j + 1))) w' ∧ Below B w w') :=
    hidd fun j B w hj hA hT => by
      have hl := wordsAt_len r a b (lineP f j)
      rw [lineP_len] at hl
      rw [lineP_step, wordsAt_append, wordsAt_one]
      exact ntake B r _ _ _ (by omega) w hA hT
  have hT0 : Hid (Tabs w) := hT
  clear hT
  go_enter Tryz.func10, Tryz.ntmps10
  go_wp2_with fail
  refine (PA.out _ hT0.out).mono ?_
  rintro e w1 ⟨rfl, d1⟩
  have c1 : Below w.heap.size w w1 := Below.trans (by go_grown) (d1.mono (by simp; try omega))
  have hB := c1
  clear c1 d1
  have hT1 := hT0.out.below hB
  have A2 := hidd (at6_line w1 r a b (.cells #[.int .i64 r, .int .i64 a, .int .i64 b, .int .i64 r, .int .i64 c, .int .i64 d, .int .i64 N] 66) 61)
  have T2 : Hid (Tabs ((w1.alloc (.cells #[.int .i64 r, .int .i64 a, .int .i64 b, .int .i64 r, .int .i64 c, .int .i64 d, .int .i64 N] 66)).alloc (.cells #[.int .i64 r, .int .i64 a, .int .i64 b, .slice none 0 0] 61))) := hT1.below (belowT (allocB _ _) (allocB _ _))
  have B2 : Below w.heap.size w ((w1.alloc (.cells #[.int .i64 r, .int .i64 a, .int .i64 b, .int .i64 r, .int .i64 c, .int .i64 d, .int .i64 N] 66)).alloc (.cells #[.int .i64 r, .int .i64 a, .int .i64 b, .slice none 0 0] 61)) := belowT hB (belowT (allocB _ _) (allocB _ _))
  have p0 : ((w1.alloc (.cells #[.int .i64 r, .int .i64 a, .int .i64 b, .int .i64 r, .int .i64 c, .int .i64 d, .int .i64 N] 66)).alloc (.cells #[.int .i64 r, .int .i64 a, .int .i64 b, .slice none 0 0] 61)).cell? ⟨w1.heap.size, 0, none⟩ = some (.int .i64 r) := by go_simp
  have p1 : ((w1.alloc (.cells #[.int .i64 r, .int .i64 a, .int .i64 b, .int .i64 r, .int .i64 c, .int .i64 d, .int .i64 N] 66)).alloc (.cells #[.int .i64 r, .int .i64 a, .int .i64 b, .slice none 0 0] 61)).cell? ⟨w1.heap.size, 1, none⟩ = some (.int .i64 a) := by go_simp
  have p2 : ((w1.alloc (.cells #[.int .i64 r, .int .i64 a, .int .i64 b, .int .i64 r, .int .i64 c, .int .i64 d, .int .i64 N] 66)).alloc (.cells #[.int .i64 r, .int .i64 a, .int .i64 b, .slice none 0 0] 61)).cell? ⟨w1.heap.size, 2, none⟩ = some (.int .i64 b) := by go_simp
  have p3 : ((w1.alloc (.cells #[.int .i64 r, .int .i64 a, .int .i64 b, .int .i64 r, .int .i64 c, .int .i64 d, .int .i64 N] 66)).alloc (.cells #[.int .i64 r, .int .i64 a, .int .i64 b, .slice none 0 0] 61)).cell? ⟨w1.heap.size, 3, none⟩ = some (.int .i64 r) := by go_simp
  have p4 : ((w1.alloc (.cells #[.int .i64 r, .int .i64 a, .int .i64 b, .int .i64 r, .int .i64 c, .int .i64 d, .int .i64 N] 66)).alloc (.cells #[.int .i64 r, .int .i64 a, .int .i64 b, .slice none 0 0] 61)).cell? ⟨w1.heap.size, 4, none⟩ = some (.int .i64 c) := by go_simp
  have p5 : ((w1.alloc (.cells #[.int .i64 r, .int .i64 a, .int .i64 b, .int .i64 r, .int .i64 c, .int .i64 d, .int .i64 N] 66)).alloc (.cells #[.int .i64 r, .int .i64 a, .int .i64 b, .slice none 0 0] 61)).cell? ⟨w1.heap.size, 5, none⟩ = some (.int .i64 d) := by go_simp
  have p6 : ((w1.alloc (.cells #[.int .i64 r, .int .i64 a, .int .i64 b, .int .i64 r, .int .i64 c, .int .i64 d, .int .i64 N] 66)).alloc (.cells #[.int .i64 r, .int .i64 a, .int .i64 b, .slice none 0 0] 61)).cell? ⟨w1.heap.size, 6, none⟩ = some (.int .i64 N) := by go_simp
  have g0 : 1 < w1.heap.size + 1 := Nat.lt_succ_of_lt hT1.lt.1
  have g1 : 0 < w1.heap.size + 1 := Nat.lt_succ_of_lt hT1.lt.2
  have hwB : w.heap.size ≤ w1.heap.size := hB.size
  have hNz : (N : Int) ≤ 10000 := h1
  go_wp2_with fail
  generalize (w1.alloc (.cells #[.int .i64 r, .int .i64 a, .int .i64 b, .int .i64 r, .int .i64 c, .int .i64 d, .int .i64 N] 66)).alloc (.cells #[.int .i64 r, .int .i64 a, .int .i64 b, .slice none 0 0] 61) = w2 at A2 T2 B2 p0 p1 p2 p3 p4 p5 p6 ⊢
  generalize w1.heap.size = P at A2 g0 g1 hwB p0 p1 p2 p3 p4 p5 p6 ⊢
  clear hT1 PA hT0 hB
  go_loopw [28] (fun v28 wr => ∃ (j : Nat) (x y : Int), j ≤ N + 1 ∧ v28 = .int .i64 (j : Int) ∧ Hid (At6 (P + 1) (r : Int) x y (wordsAt r a b (lineP f j)) wr) ∧ Hid (Tabs wr) ∧ Below (P + 1) w2 wr) (fun v28 _ => N + 1 - (intOf v28).toNat)
  case atStart => exact ⟨0, a, b, by omega, rfl, A2, T2, Below.refl _ _⟩
  case round =>
    clear A2 T2
    obtain ⟨j, x, y, hj, rfl, hA, hT, hB⟩ := hrel
    have q0 := keepLow hB p0 (Nat.lt_succ_self P)
    have q1 := keepLow hB p1 (Nat.lt_succ_self P)
    have q2 := keepLow hB p2 (Nat.lt_succ_self P)
    have q3 := keepLow hB p3 (Nat.lt_succ_self P)
    have q4 := keepLow hB p4 (Nat.lt_succ_self P)
    have q5 := keepLow hB p5 (Nat.lt_succ_self P)
    have q6 := keepLow hB p6 (Nat.lt_succ_self P)
    by_cases hlt : j < N + 1
    · go_wp2_with fail
      refine (PT.out j (by omega) wr).mono ?_
      rintro e w3 ⟨rfl, b3⟩
      have TJ := hidd (TK.out j (P + 1))
      have A3 := hA.out.keep b3
      have T3 := hT.out.below b3
      obtain ⟨v3, ⟨c0, c1, c2, c3, f0, f1, f2, f3⟩, hO3⟩ := A3
      have hPl : P + 1 < wr.heap.size := by obtain ⟨v, ht, _⟩ := hA.out; exact ht.lt
      have B3 := hB.trans (b3.mono (by omega))
      generalize (f j).1 = X at *
      generalize (f j).2 = Y at *
      have A4 := hidd (at6_go (x' := a + X) (y' := b + Y) ⟨v3, ⟨c0, c1, c2, c3, f0, f1, f2, f3⟩, hO3⟩)
      have B4 : Below (P + 1) w2 ((w3.setCell ⟨P + 1, 1, none⟩ (.int .i64 (a + X))).setCell ⟨P + 1, 2, none⟩ (.int .i64 (b + Y))) := (B3.setCell (p := ⟨P + 1, 1, none⟩) (Nat.le_refl _) _).setCell (p := ⟨P + 1, 2, none⟩) (Nat.le_refl _) _
      have T4 := hidd (T3.low (B := P + 1) g0 g1 (((Below.refl (P + 1) w3).setCell (p := ⟨P + 1, 1, none⟩) (Nat.le_refl _) (.int .i64 (a + X))).setCell (p := ⟨P + 1, 2, none⟩) (Nat.le_refl _) (.int .i64 (b + Y))))
      clear q0 q1 q2 q3 q4 q5 q6 c0 c3 f0 f3 hO3 hA hT b3 B3 T3 hB
      go_wp2_with fail
      generalize (w3.setCell ⟨P + 1, 1, none⟩ (.int .i64 (a + X))).setCell ⟨P + 1, 2, none⟩ (.int .i64 (b + Y)) = w4 at A4 B4 T4 ⊢
      refine (TJ.out w4 (by omega) A4.out T4.out).mono ?_
      rintro e w5 ⟨rfl, a5, b5⟩
      have A5 := hidd a5
      have T5 := hidd (T4.out.low g0 g1 b5)
      have B5 := B4.trans b5
      clear a5 b5 A4 T4 B4 TJ c1 c2 f1 f2
      go_wp2_with fail
      go_roundw
      case rel => exact ⟨j + 1, _, _, by omega, by go_num, A5, T5, B5⟩
      case measure => simp [intOf]; omega
    · obtain rfl : j = N + 1 := by omega
      obtain ⟨s, c4, hR⟩ := at6_row hA.out
      have HR := hidd (hR.mono (show w.heap.size ≤ P + 1 + 1 by omega))
      have hltz : decide (((N + 1 : Nat) : Int) < (N : Int) + 1) = false := df (by omega)
      have B5 := B2.trans (hB.mono (by omega))
      clear TK PT hA hT g0 g1 hR q0 q1 q2 q3 q4 q5 q6
      go_wp2
      go_ret2
      exact ⟨⟨s, rfl, HR.out⟩, B5⟩

theorem nline_yes (v u : Int) (hv : Whole v) (hu : Whole u) (hr : wR u = wR v) {n : Int} {f : Nat → Int × Int} (hL : OnLine n (cellA u - cellA v) (cellB u - cellB v) f) (hn : n ≤ 10000) (w : World) (hT : Tabs w) :
    Calls Tryz.prog 10 #[.int .u64 v, .int .u64 u] w fun e w' => RowSay w.heap.size (wordsAt (wR v).toNat (cellA v) (cellB v) (lineP f (n.toNat + 1))) e w' ∧ Below w.heap.size w w' := by
  have PA := npair_yes v u hv hu hr
  have p1 := ok4_part (cell_ok hv)
  have p2 := ok4_part (cell_ok hu)
  have h0 := wR_box v
  obtain ⟨r, er⟩ : ∃ r : Nat, wR v = r := ⟨(wR v).toNat, by omega⟩
  rw [hL.2.1, er] at PA
  rw [er, show ((r : Int)).toNat = r by omega]
  exact nline_core r _ _ _ _ n (by have := hL.1; omega) hn v u f PA (fun j hj w => npart_line hL rfl rfl hn r r p1.1 p1.2 p2.1 p2.2 j hj w) w hT

set_option maxHeartbeats 2000000 in
theorem npart_zero (R a b S c d i : Int) (w : World) :
    Calls Tryz.prog 32 #[.agg #[.int .i64 R, .int .i64 a, .int .i64 b, .int .i64 S, .int .i64 c, .int .i64 d, .int .i64 0], .int .i64 i] w fun e w' => e = .returned (.agg #[.int .i64 a, .int .i64 b]) ∧ Below w.heap.size w w' := by
  have hz : Below w.heap.size w (w.alloc (.cells #[.int .i64 R, .int .i64 a, .int .i64 b, .int .i64 S, .int .i64 c, .int .i64 d, .int .i64 0] 66)) := allocB _ _
  go_enter Tryz.func32, Tryz.ntmps32
  go_wp2
  exact bodyPost_ret (v := .agg #[.int .i64 a, .int .i64 b]) (by simp [results, Tryz.results32, go_sem]) rfl ⟨rfl, belowT hz (allocB _ _)⟩

/-- A line of one cell. -/
theorem nline_zero (v : Int) (hv : Whole v) (w : World) (hT : Tabs w) :
    Calls Tryz.prog 10 #[.int .u64 v, .int .u64 v] w fun e w' => RowSay w.heap.size [v] e w' ∧ Below w.heap.size w w' := by
  have PA := npair_yes v v hv hv rfl
  have h0 := wR_box v
  have hO := cell_ok hv
  have hwc := word_cell hv
  obtain ⟨r, er⟩ : ∃ r : Nat, wR v = r := ⟨(wR v).toNat, by omega⟩
  rw [Int.sub_self, Int.sub_self, stp_nil, er] at PA
  rw [er] at hO hwc
  rw [show ((r : Int)).toNat = r by omega] at hwc
  have e1 : wordsAt r (cellA v) (cellB v) (lineP (fun _ => ((0 : Int), (0 : Int))) ((0 : Int).toNat + 1)) = [v] := by
    show wordsAt r (cellA v) (cellB v) [((0 : Int), (0 : Int))] = [v]
    rw [wordsAt_one, show cellA v + ((0 : Int), (0 : Int)).1 = cellA v from Int.add_zero _, show cellB v + ((0 : Int), (0 : Int)).2 = cellB v from Int.add_zero _, wordAt_yes hO, hwc]
  rw [← e1]
  refine nline_core r _ _ _ _ 0 (by omega) (by omega) v v _ PA (fun j hj w => ?_) w hT
  rw [Int.add_zero, Int.add_zero]
  exact npart_zero r _ _ r _ _ j w

set_option maxHeartbeats 4000000 in
theorem nline_no (v u t : Int) (hv : U64 v) (hu : U64 u) (ht : PairNo v u t ∨ (Whole v ∧ Whole u ∧ wR u = wR v ∧ 10000 < stp (cellA u - cellA v) (cellB u - cellB v) ∧ t = 7)) (w : World) (hT : Tabs w) :
    Calls Tryz.prog 10 #[.int .u64 v, .int .u64 u] w fun e w' => e = .returned (.tuple #[.slice none 0 0, .int .i64 t]) ∧ Below w.heap.size w w' := by
  rcases ht with ht | ⟨h1, h2, hr, hs, rfl⟩
  · have PA := hidd (npair_no v u t hv hu ht w hT)
    have t0 : (t == 0) = false := by unfold PairNo at ht; simp; omega
    clear hv hu ht hT
    go_enter Tryz.func10, Tryz.ntmps10
    go_wp2_with fail
    refine (PA.out).mono ?_
    rintro e w1 ⟨rfl, d1⟩
    have c1 : Below w.heap.size w w1 := Below.trans (by go_grown) (d1.mono (by simp; try omega))
    have hB := c1
    clear c1 d1
    go_wp2
    go_ret2
    exact ⟨rfl, belowT hB (by go_grown)⟩
  · have PA := hidd (npair_yes v u h1 h2 hr w hT)
    clear h1 h2 hr hT hv hu
    generalize stp (cellA u - cellA v) (cellB u - cellB v) = n at *
    go_enter Tryz.func10, Tryz.ntmps10
    go_wp2_with fail
    refine (PA.out).mono ?_
    rintro e w1 ⟨rfl, d1⟩
    have c1 : Below w.heap.size w w1 := Below.trans (by go_grown) (d1.mono (by simp; try omega))
    have hB := c1
    clear c1 d1
    go_wp2
    go_ret2
    exact ⟨rfl, belowT hB (by go_grown)⟩
end Go.Proofs.YteipijgkiobmaaaGreatDoor
