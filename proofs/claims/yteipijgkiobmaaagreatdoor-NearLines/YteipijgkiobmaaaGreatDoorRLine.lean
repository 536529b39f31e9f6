/-
  What the document's own Line tells: the same words as the program's, along the way; what is refused; in whatever memory.
-/
import Derived.Test.YteipijgkiobmaaaGreatDoorRNear
import Derived.Test.YteipijgkiobmaaaGreatDoorNLine
namespace Go.Proofs.YteipijgkiobmaaaGreatDoor
open Go.RowKit

theorem keepTwoW {w0 a b : World} {p0 p1 : Addr} {v0 v1 : Value} (hb : Below a.heap.size a b) (h : a.cell? p0 = some v0 ∧ a.cell? p1 = some v1 ∧ Below w0.heap.size w0 a) :
    b.cell? p0 = some v0 ∧ b.cell? p1 = some v1 ∧ Below w0.heap.size w0 b :=
  ⟨keepCell hb h.1, keepCell hb h.2.1, belowT h.2.2 hb⟩
/-- The document's rounding of a part of the way. -/
theorem rround_line {n p q a b c d : Int} {f : Nat → Int × Int} (hL : OnLine n p q f) (hp : c - a = p) (hq : d - b = q) (hn : n ≤ 10000) (ha : -400000000 ≤ a ∧ a ≤ 400000000) (hb : -400000000 ≤ b ∧ b ≤ 400000000) (hc : -400000000 ≤ c ∧ c ≤ 400000000) (hd : -400000000 ≤ d ∧ d ≤ 400000000) (j : Nat) (hj : (j : Int) ≤ n) (w : World) :
    Calls Tryz.prog 41 #[.agg #[.int .i64 ((n - j) * a + (j : Int) * c), .int .i64 ((n - j) * b + (j : Int) * d)], .int .i64 n] w fun e w' => e = .returned (.tuple #[.agg #[.int .i64 (a + (f j).1), .int .i64 (b + (f j).2)], .bool true]) ∧ Below w.heap.size w w' := by
  have m1 := mul_in (a := n - j) (b := a) (A := 10000) (B := 400000000) (by have := hL.1; omega) ha
  have m2 := mul_in (a := n - j) (b := b) (A := 10000) (B := 400000000) (by have := hL.1; omega) hb
  have m3 := mul_in (a := (j : Int)) (b := c) (A := 10000) (B := 400000000) (by omega) hc
  have m4 := mul_in (a := (j : Int)) (b := d) (A := 10000) (B := 400000000) (by omega) hd
  have h0 := hL.1
  refine (refround_see _ _ n (by omega) (by omega) (by omega) (by omega) (by omega) (by omega) w).mono fun e w' ⟨he, hb'⟩ => ⟨?_, hb'⟩
  obtain ⟨x, y, rfl, hN⟩ := he
  have := hL.at' hp hq hN
  rw [this.1, this.2]
/-- A part of the way lies between its ends. -/
theorem line_in {n p q a b : Int} {f : Nat → Int × Int} (hL : OnLine n p q f) (hn : n ≤ 10000) (ha : -400000000 ≤ a ∧ a ≤ 400000000) (hb : -400000000 ≤ b ∧ b ≤ 400000000) (j : Nat) (hj : (j : Int) ≤ n) : (-500000000 ≤ a + (f j).1 ∧ a + (f j).1 ≤ 500000000) ∧ (-500000000 ≤ b + (f j).2 ∧ b + (f j).2 ≤ 500000000) := by
  have h := hL.near j
  have h2 := stp_ge (f j).1 (f j).2
  omega

set_option maxHeartbeats 8000000 in
set_option maxRecDepth 20000 in
theorem rline_core (r : Nat) (S a b c d n : Int) (h0 : 1 ≤ n) (h1 : n ≤ 10000) (ha : -400000000 ≤ a ∧ a ≤ 400000000) (hb : -400000000 ≤ b ∧ b ≤ 400000000) (hc : -400000000 ≤ c ∧ c ≤ 400000000) (hd : -400000000 ≤ d ∧ d ≤ 400000000) (v u : Int) (f : Nat → Int × Int)
    (DI : ∀ w, Calls Tryz.prog 20 #[.int .u64 v, .int .u64 u] w fun e w' => e = .returned (.tuple #[.int .i64 n, .int .i64 0]) ∧ Below w.heap.size w w')
    (C1 : ∀ w, Calls Tryz.prog 14 #[.int .u64 v] w fun e w' => e = .returned (.tuple #[.agg #[.int .i64 r, .int .i64 a, .int .i64 b], .int .i64 0]) ∧ Below w.heap.size w w')
    (C2 : ∀ w, Calls Tryz.prog 14 #[.int .u64 u] w fun e w' => e = .returned (.tuple #[.agg #[.int .i64 S, .int .i64 c, .int .i64 d], .int .i64 0]) ∧ Below w.heap.size w w')
    (FB : ∀ (j : Nat), (j : Int) ≤ n → (-500000000 ≤ a + (f j).1 ∧ a + (f j).1 ≤ 500000000) ∧ (-500000000 ≤ b + (f j).2 ∧ b + (f j).2 ≤ 500000000))
    (RO : ∀ (j : Nat), (j : Int) ≤ n → ∀ w, Calls Tryz.prog 41 #[.agg #[.int .i64 ((n - j) * a + (j : Int) * c), .int .i64 ((n - j) * b + (j : Int) * d)], .int .i64 n] w fun e w' => e = .returned (.tuple #[.agg #[.int .i64 (a + (f j).1), .int .i64 (b + (f j).2)], .bool true]) ∧ Below w.heap.size w w')
    (w : World) :
    Calls Tryz.prog 24 #[.int .u64 v, .int .u64 u] w fun e w' => RowSay w.heap.size (wordsAt r a b (lineP f (n.toNat + 1))) e w' ∧ Below w.heap.size w w' := by
  replace DI := hidd DI
  replace C1 := hidd C1
  replace C2 := hidd C2
  replace RO := hidd RO
  replace FB := hidd FB
  obtain ⟨N, rfl⟩ : ∃ N : Nat, n = N := ⟨n.toNat, by omega⟩
  rw [show ((N : Int)).toNat = N by omega]
  obtain ⟨i0, hi, hz0, hz1, hz2⟩ := info_parts infoU64
  have n0 : ((N : Int) == 0) = false := by simp; omega
  go_enter Tryz.func24, Tryz.ntmps24
  go_wp2_with fail
  refine (DI.out _).mono ?_
  rintro e w1 ⟨rfl, d1⟩
  have c1 : Below w.heap.size w w1 := Below.trans (by go_grown) (d1.mono (by simp; try omega))
  have hB := c1
  clear c1 d1
  go_wp2_with fail
  refine (C1.out _).mono ?_
  rintro e w2 ⟨rfl, d2⟩
  have c2 : Below w1.heap.size w1 w2 := Below.trans (by go_grown) (d2.mono (by simp; try omega))
  replace hB := belowT hB c2
  clear c2 d2
  go_wp2_with fail
  refine (C2.out _).mono ?_
  rintro e w3 ⟨rfl, d3⟩
  have c3 : Below w2.heap.size w2 w3 := Below.trans (by go_grown) (d3.mono (by simp; try omega))
  have c0 : w3.cell? ⟨w2.heap.size, 0, none⟩ = some (.int .i64 r) := keepCell d3 (by go_simp)
  have qc0 := World.block_lt_of_cell? _ _ c0
  have c1' : w3.cell? ⟨w2.heap.size, 1, none⟩ = some (.int .i64 a) := keepCell d3 (by go_simp)
  have c2' : w3.cell? ⟨w2.heap.size, 2, none⟩ = some (.int .i64 b) := keepCell d3 (by go_simp)
  replace hB := belowT hB c3
  clear c3 d3
  have hlow : w2.heap.size < w3.heap.size := qc0
  have hal := allocB w3 (.cells #[.int .i64 S, .int .i64 c, .int .i64 d] 37)
  have z0 := keepCell hal c0
  have z1 := keepCell hal c1'
  have z2 := keepCell hal c2'
  have y1 : (w3.alloc (.cells #[.int .i64 S, .int .i64 c, .int .i64 d] 37)).cell? ⟨w3.heap.size, 1, none⟩ = some (.int .i64 c) := by go_simp
  have y2 : (w3.alloc (.cells #[.int .i64 S, .int .i64 c, .int .i64 d] 37)).cell? ⟨w3.heap.size, 2, none⟩ = some (.int .i64 d) := by go_simp
  have BW := belowT hB hal
  have hWs : (w3.alloc (.cells #[.int .i64 S, .int .i64 c, .int .i64 d] 37)).heap.size = w3.heap.size + 1 := by simp
  clear c0 c1' c2' qc0 DI C1 C2
  go_wp2_with fail
  generalize (w3.alloc (.cells #[.int .i64 S, .int .i64 c, .int .i64 d] 37)) = W at z0 z1 z2 y1 y2 BW hWs ⊢
  have hWl : w.heap.size ≤ w3.heap.size := hB.size
  clear hB hal
  generalize w2.heap.size = C at z0 z1 z2 hlow ⊢
  generalize w3.heap.size = M at y1 y2 hWs hlow hWl ⊢
  go_loopw [12, 13] (fun v12 v13 wr => ∃ (j : Nat), j ≤ N + 1 ∧ v13 = .int .i64 (j : Int) ∧ Hid (wr.ownsRow (M + 1) 22 1 v12 (wordsAt r a b (lineP f j)).length (vals (wordsAt r a b (lineP f j)))) ∧ Below (M + 1) W wr) (fun _ v13 _ => N + 1 - (intOf v13).toNat)
  case atStart => exact ⟨0, by omega, rfl, hidd own_nil, Below.refl _ _⟩
  case round =>
    obtain ⟨j, hj, rfl, hO, hB⟩ := hrel
    have x0 := keepLow hB z0 (by show C < M + 1; omega)
    have x1 := keepLow hB z1 (by show C < M + 1; omega)
    have x2 := keepLow hB z2 (by show C < M + 1; omega)
    have x3 := keepLow hB y1 (Nat.lt_succ_self M)
    have x4 := keepLow hB y2 (Nat.lt_succ_self M)
    have hWB : M + 1 ≤ wr.heap.size := by have := hB.size; omega
    by_cases hlt : j < N + 1
    · have hjz : (j : Int) ≤ (N : Int) := by omega
      have RJ := hidd (RO.out j hjz)
      obtain ⟨⟨f1, f2⟩, f3, f4⟩ := FB.out j hjz
      have m1 := mul_in (a := (N : Int) - j) (b := a) (A := 10000) (B := 400000000) (by omega) ha
      have m2 := mul_in (a := (N : Int) - j) (b := b) (A := 10000) (B := 400000000) (by omega) hb
      have m3 := mul_in (a := (j : Int)) (b := c) (A := 10000) (B := 400000000) (by omega) hc
      have m4 := mul_in (a := (j : Int)) (b := d) (A := 10000) (B := 400000000) (by omega) hd
      obtain ⟨U1, hU1⟩ : ∃ z, ((N : Int) - j) * a = z := ⟨_, rfl⟩
      obtain ⟨V1, hV1⟩ : ∃ z, ((N : Int) - j) * b = z := ⟨_, rfl⟩
      obtain ⟨U2, hU2⟩ : ∃ z, (j : Int) * c = z := ⟨_, rfl⟩
      obtain ⟨V2, hV2⟩ : ∃ z, (j : Int) * d = z := ⟨_, rfl⟩
      rw [hU1, hV1, hU2, hV2] at RJ
      rw [hU1] at m1
      rw [hV1] at m2
      rw [hU2] at m3
      rw [hV2] at m4
      have hTK : Hid (wordsAt r a b (lineP f (j + 1)) = wordsAt r a b (lineP f j) ++ wordAt r (a + (f j).1) (b + (f j).2)) := hidd (by rw [lineP_step, wordsAt_append, wordsAt_one])
      have hwl : (wordsAt r a b (lineP f j)).length ≤ 10001 := by have h1 := wordsAt_len r a b (lineP f j); rw [lineP_len] at h1; omega
      generalize a + (f j).1 = X at *
      generalize b + (f j).2 = Y at *
      go_wp2_with fail
      refine (RJ.out _).mono ?_
      rintro e w4 ⟨rfl, b4⟩
      replace x0 := keepCell b4 x0
      replace hO := hidd (own_keep b4 hO.out)
      have B4 := hB.trans (b4.mono hWB)
      have hW4 : M + 1 ≤ w4.heap.size := by have := b4.size; omega
      clear b4 hB RJ x1 x2 x3 x4 hU1 hV1 hU2 hV2 m1 m2 m3 m4 hWB
      by_cases hok : Ok4 (r : Int) X Y
      · have RW := hidd (rword_yes r X Y hok)
        rw [wordAt_yes hok] at hTK
        have hvl : Hid (vals (wordsAt r a b (lineP f (j + 1))) = vals (wordsAt r a b (lineP f j)) ++ [.int .u64 (wordOf r X Y)] ∧ (wordsAt r a b (lineP f (j + 1))).length = (wordsAt r a b (lineP f j)).length + 1) := hidd (by rw [hTK.out]; exact ⟨by simp [vals], by simp⟩)
        generalize wordOf r X Y = z at *
        generalize hLL : wordsAt r a b (lineP f j) = LL at *
        clear hok hLL hTK
        have hal2 := allocB w4 (.cells #[.int .i64 X, .int .i64 Y] 35)
        replace x0 := keepCell hal2 x0
        replace hO := hidd (own_keep hal2 hO.out)
        have B5 := B4.trans (hal2.mono hW4)
        go_wp2_with fail
        refine (RW.out _).mono ?_
        rintro e w5 ⟨rfl, b5⟩
        have hO5 := hidd (own_keep b5 hO.out)
        have B6 := B5.trans (b5.mono (by simp; omega))
        have hW5 : M + 1 ≤ w5.heap.size := by have := B6.size; omega
        clear b5 RW hO B4 B5 x0 hal2
        go_wp2_with (at_builtin; refine wpList_append_own _ rfl (.tmp 90) (.tmp 92) 24 rfl (M + 1) 22 i0 (.int .u64 0) 1 8 Tryz.underlying24 hi hz0 hz1 hz2 rfl (by decide) _ _ _ rfl (own_keep (allocB _ _) hO5.out) ⟨w5.heap.size, 0, none⟩ 1 1 [.int .u64 z] rfl rfl (one_lies _ _ rfl _ _) (one_int _ _) (by unfold maxLen; omega) (by omega) (by simp; omega) ?_)
        intro v' w7 hown hgrow _
        have hB7 := (B6.alloc hW5 (.cells #[.int .u64 z] 22)).grown hgrow (by simp; omega) (own_block hO5.out)
        have hO7 : Hid (w7.ownsRow (M + 1) 22 1 v' (wordsAt r a b (lineP f (j + 1))).length (vals (wordsAt r a b (lineP f (j + 1))))) := hidd (by rw [hvl.out.1, hvl.out.2]; exact hown)
        clear hown hgrow hO5 B6 hW5 hvl
        go_wp2
        go_roundw
        case rel => exact ⟨j + 1, by omega, by go_num, hO7, hB7⟩
        case measure => simp [intOf]; omega
      · have RW := hidd (rword_none (r : Int) X Y hok)
        rw [wordAt_no hok, List.append_nil] at hTK
        rw [← hTK.out] at hO
        clear hok hTK
        have hal2 := allocB w4 (.cells #[.int .i64 X, .int .i64 Y] 35)
        replace x0 := keepCell hal2 x0
        replace hO := hidd (own_keep hal2 hO.out)
        have B5 := B4.trans (hal2.mono hW4)
        go_wp2_with fail
        refine (RW.out _).mono ?_
        rintro e w5 ⟨rfl, b5⟩
        have hO5 := hidd (own_keep b5 hO.out)
        have B6 := B5.trans (b5.mono (by simp; omega))
        clear b5 RW hO B4 B5 x0 hal2
        go_wp2
        go_roundw
        case rel => exact ⟨j + 1, by omega, by go_num, hO5, B6⟩
        case measure => simp [intOf]; omega
    · obtain rfl : j = N + 1 := by omega
      have HR := hidd ((own_row hO.out).mono (show w.heap.size ≤ M + 1 by omega))
      have hjz : decide (((N + 1 : Nat) : Int) ≤ (N : Int)) = false := decide_eq_false (by omega)
      have B6 := BW.trans (hB.mono (by omega))
      clear hO RO FB x0 x1 x2 x3 x4 z0 z1 z2 y1 y2
      go_wp2
      go_ret2
      exact ⟨⟨_, rfl, HR.out⟩, B6⟩

theorem rline_yes (v u : Int) (hv : Whole v) (hu : Whole u) (hr : wR u = wR v) {n : Int} {f : Nat → Int × Int} (hL : OnLine n (cellA u - cellA v) (cellB u - cellB v) f) (hn : n ≤ 10000) (w : World) :
    Calls Tryz.prog 24 #[.int .u64 v, .int .u64 u] w fun e w' => RowSay w.heap.size (wordsAt (wR v).toNat (cellA v) (cellB v) (lineP f (n.toNat + 1))) e w' ∧ Below w.heap.size w w' := by
  have DI := rdist_yes v u hv hu hr
  have C1 := rwcell_yes v hv
  have C2 := rwcell_yes u hu
  have p1 := ok4_part (cell_ok hv)
  have p2 := ok4_part (cell_ok hu)
  have h0 := wR_box v
  obtain ⟨r, er⟩ : ∃ r : Nat, wR v = r := ⟨(wR v).toNat, by omega⟩
  rw [hL.2.1] at DI
  rw [er] at C1
  rw [er, show ((r : Int)).toNat = r by omega]
  exact rline_core r _ _ _ _ _ n hL.1 hn p1.1 p1.2 p2.1 p2.2 v u f DI C1 C2 (fun j hj => line_in hL hn p1.1 p1.2 j hj) (fun j hj w => rround_line hL rfl rfl hn p1.1 p1.2 p2.1 p2.2 j hj w) w

set_option maxHeartbeats 4000000 in
theorem rline_zero (v : Int) (hv : Whole v) (w : World) :
    Calls Tryz.prog 24 #[.int .u64 v, .int .u64 v] w fun e w' => RowSay w.heap.size [v] e w' ∧ Below w.heap.size w w' := by
  have DI := rdist_yes v v hv hv rfl
  rw [Int.sub_self, Int.sub_self, stp_nil] at DI
  replace DI := hidd DI
  clear hv
  go_enter Tryz.func24, Tryz.ntmps24
  go_wp2_with fail
  refine (DI.out _).mono ?_
  rintro e w1 ⟨rfl, d1⟩
  have c1 : Below w.heap.size w w1 := Below.trans (by go_grown) (d1.mono (by simp; try omega))
  have hB := c1
  clear c1 d1
  have hs := hB.size
  have hl : Hid (RowAt w.heap.size (w1.alloc (.cells #[.int .u64 v] 22)) (.slice (some ⟨w1.heap.size, 0, none⟩) 1 1) [v]) := hidd (Or.inr ⟨w1.heap.size, 1, rfl, hs, fun j hj => by
    have : j = 0 := by simp at hj; omega
    subst this
    go_simp⟩)
  have hB2 := belowT hB (allocB w1 (.cells #[.int .u64 v] 22))
  go_wp2
  go_ret2
  exact ⟨⟨_, rfl, hl.out⟩, hB2⟩

set_option maxHeartbeats 4000000 in
theorem rline_no (v u t : Int) (hv : U64 v) (hu : U64 u) (ht : PairNo v u t ∨ (Whole v ∧ Whole u ∧ wR u = wR v ∧ 10000 < stp (cellA u - cellA v) (cellB u - cellB v) ∧ t = 7)) (w : World) :
    Calls Tryz.prog 24 #[.int .u64 v, .int .u64 u] w fun e w' => e = .returned (.tuple #[.slice none 0 0, .int .i64 t]) ∧ Below w.heap.size w w' := by
  rcases ht with ht | ⟨h1, h2, hr, hs, rfl⟩
  · have DI := hidd (rdist_no v u t hv hu ht)
    have t0 : (t == 0) = false := by unfold PairNo at ht; simp; omega
    clear hv hu ht
    go_enter Tryz.func24, Tryz.ntmps24
    go_wp2_with fail
    refine (DI.out _).mono ?_
    rintro e w1 ⟨rfl, d1⟩
    have c1 : Below w.heap.size w w1 := Below.trans (by go_grown) (d1.mono (by simp; try omega))
    have hB := c1
    clear c1 d1
    go_wp2
    go_ret2
    exact ⟨rfl, hB⟩
  · have DI := hidd (rdist_yes v u h1 h2 hr)
    clear h1 h2 hr hv hu
    generalize stp (cellA u - cellA v) (cellB u - cellB v) = n at *
    go_enter Tryz.func24, Tryz.ntmps24
    go_wp2_with fail
    refine (DI.out _).mono ?_
    rintro e w1 ⟨rfl, d1⟩
    have c1 : Below w.heap.size w w1 := Below.trans (by go_grown) (d1.mono (by simp; try omega))
    have hB := c1
    clear c1 d1
    go_wp2
    go_ret2
    exact ⟨rfl, hB⟩
end Go.Proofs.YteipijgkiobmaaaGreatDoor
