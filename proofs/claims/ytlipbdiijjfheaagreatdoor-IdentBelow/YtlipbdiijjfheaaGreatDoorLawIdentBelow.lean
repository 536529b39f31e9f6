/-
  The law IdentBelow answers true for every six numbers, in whatever memory where the tables hold what their texts lay: of the words below a word, and of no others, each lies between the first and the last.
-/
import Derived.Test.YtlipbdiijjfheaaGreatDoorRWord
import Derived.Test.YtlipbdiijjfheaaGreatDoorICell
import Derived.Test.YtlipbdiijjfheaaGreatDoorWBelow
import Derived.Test.YtlipbdiijjfheaaGreatDoorIAwake
namespace Go.Proofs.YtlipbdiijjfheaaGreatDoor
open Go.RowKit

theorem below_mask (n : Int) : bits .and .i64 n 3 = n % 4 := by
  have := i64_mask n 2 (by omega); simpa using this
theorem below_size (r : Int) : ∃ (t : Int) (n : Nat), r.tmod 12 = t ∧ (t + 12).tmod 12 = (n : Int) ∧ -12 < t ∧ t < 12 ∧ n < 12 := by
  have h1 := Int.tmod_lt_of_pos r (show (0 : Int) < 12 by omega)
  have h2 := Int.lt_tmod_of_pos r (show (0 : Int) < 12 by omega)
  have h3 := Int.tmod_eq_emod_of_nonneg (b := 12) (show 0 ≤ r.tmod 12 + 12 by omega)
  have h4 : 0 ≤ (r.tmod 12 + 12).tmod 12 ∧ (r.tmod 12 + 12).tmod 12 < 12 := by rw [h3]; omega
  refine ⟨_, ((r.tmod 12 + 12).tmod 12).toNat, rfl, by omega, h2, h1, by omega⟩
theorem aword_sz (x0 y0 : Int) (n : Nat) (hn : n < 12) (w : World) :
    Calls Tryz.prog 9 #[.int .i64 x0, .int .i64 y0, .int .i64 (n : Int)] w fun e w' => TellsW n e ∧ Below w.heap.size w w' := by
  refine aword_at x0 y0 n n (fun w => ?_) w
  obtain ⟨t, s, K, ht, hs, t1, t2, hK, hr⟩ := size13 (n : Int)
  have e1 : t = (n : Int) := by rw [← ht, Int.tmod_eq_emod_of_nonneg (by omega)]; omega
  have e2 : s = (n : Int) := by rw [← hs, e1, Int.tmod_eq_emod_of_nonneg (by omega)]; omega
  rw [← e2]
  cases h0 : (bits .and .i64 y0 1 == 0) with
  | true =>
    obtain ⟨u, v, hw, PT⟩ := point_any x0 y0
    obtain ⟨a, b, hn⟩ := nearest_some (dvK_box (K := K) hK).1 (nuA K u v) (nuB K u v)
    rw [e2] at hs hr ⊢
    exact (csome_point x0 y0 n t n _ u v a b ht hs t1 t2 rfl h0 PT (rnear_at u v n K hK hr hw a b hn) w).mono fun e w' ⟨he, hb⟩ => ⟨⟨a, b, he, near_ok hK hr hw hn⟩, hb⟩
  | false =>
    rw [e2] at hs ⊢
    exact csome_down x0 y0 n t n (by omega) _ ht hs t1 t2 rfl h0 w
/-- A word that lies where a chain of first children, or of last ones, leads. -/
theorem desc_first {a : Int} {n : Nat} (h : Whole a) (hn : wR a = (n : Int)) : ∀ t, n + t ≤ 12 → Desc a n t (firstW a n t) ∧ Desc a n t (lastW a n t)
  | 0, _ => by
    have e1 : firstW a n 0 = a := by simp [firstW, farW]
    have e2 : lastW a n 0 = a := by simp [lastW, farW]
    rw [e1, e2]
    exact ⟨desc_self h hn, desc_self h hn⟩
  | t + 1, ht => by
    obtain ⟨h1, h2⟩ := desc_first h hn t (by omega)
    have g1 := desc_step h1 (by omega) (show 0 ≤ 6 by omega)
    have g2 := desc_step h2 (by omega) (show 6 ≤ 6 by omega)
    rw [first_step h1.2.1] at g1
    rw [last_step h2.2.1] at g2
    exact ⟨g1, g2⟩

/-- The word of a word's child, as package ident tells it. -/
theorem of_child {L : Int} {m : Nat} (h : Whole L) (hr : wR L = (m : Int)) (hm : m < 12) (d : Nat) (hd : d ≤ 6) (w : World) (hT : Tabs w) :
    Calls Tryz.prog 18 #[.agg #[.int .i64 (kidG (m : Int) (cellA L) (cellB L) (d * 3)), .int .i64 (kidG (m : Int) (cellA L) (cellB L) (d * 3 + 1)), .int .i64 (kidG (m : Int) (cellA L) (cellB L) (d * 3 + 2))]] w fun e w' => e = .returned (.tuple #[.int .u64 (chW L d), .int .i64 0]) ∧ Below w.heap.size w w' := by
  have hc := child_word h (by omega) hd
  rw [hr, show ((m : Int)).toNat = m by omega] at hc
  have := iof_yes _ _ _ hc.1 w hT
  rw [hc.2] at this
  rw [kidG_0, kidG_1, kidG_2]
  exact this
theorem cell_at {L : Int} {m : Nat} (h : Whole L) (hr : wR L = (m : Int)) (w : World) (hT : Tabs w) :
    Calls Tryz.prog 14 #[.int .u64 L] w fun e w' => e = .returned (.tuple #[.agg #[.int .i64 (m : Int), .int .i64 (cellA L), .int .i64 (cellB L)], .int .i64 0]) ∧ Below w.heap.size w w' := by
  have := icell_yes L h w hT
  rwa [hr] at this
theorem kids_at {L : Int} {m : Nat} (h : Whole L) (hr : wR L = (m : Int)) (hm : m < 12) (w : World) :
    Calls Tryz.prog 17 #[.agg #[.int .i64 (m : Int), .int .i64 (cellA L), .int .i64 (cellB L)]] w fun e w' => TellsC (kidG (m : Int) (cellA L) (cellB L)) e w' ∧ Below w.heap.size w w' := by
  have hc := cell_ok h
  rw [hr] at hc
  exact rkids_yes _ _ _ hc (by omega) w

set_option maxHeartbeats 32000000 in
set_option maxRecDepth 20000 in
theorem identBelow_walk (x y u v r d : Int) (w : World) (hT : Five w) :
    Calls Tryz.prog 5 #[.int .i64 x, .int .i64 y, .int .i64 u, .int .i64 v, .int .i64 r, .int .i64 d] w fun e w' => e = .returned (.bool true) ∧ Below w.heap.size w w' := by
  obtain ⟨t0, n, et, en, t1, t2, hn⟩ := below_size r
  have S1 : Hid _ := aword_sz x y n hn
  have S2 : Hid _ := aword_sz u v n hn
  have M3 := below_mask d
  obtain ⟨q, hq, q4⟩ : ∃ q : Nat, d % 4 = (q : Int) ∧ q < 4 := ⟨(d % 4).toNat, by omega, by omega⟩
  rw [hq] at M3
  clear hq
  have hT0 : Hid (Five w) := hT
  clear hT
  go_enter Tryz.func5, Tryz.ntmps5
  go_wp2_with fail
  refine (S1.out _).mono ?_
  rintro e w1 ⟨⟨P, Q, rfl, hO⟩, d1⟩
  have c1 : Below w.heap.size w w1 := Below.trans (by go_grown) (d1.mono (by simp; try omega))
  have hB := c1
  clear c1 d1
  go_wp2_with fail
  refine (S2.out _).mono ?_
  rintro e w2 ⟨⟨U, V, rfl, hO2⟩, d2⟩
  have c2 : Below w1.heap.size w1 w2 := Below.trans (by go_grown) (d2.mono (by simp; try omega))
  replace hB := belowT hB c2
  clear c2 d2
  have hpa := word_parts hO
  have hpb := word_parts hO2
  have ha0 := hpa.1
  have hra := hpa.2.1
  have hb0 := hpb.1
  have hrb := hpb.2.1
  clear hpa hpb hO hO2 S1 S2
  generalize wordOf n P Q = a at *
  generalize wordOf n U V = b at *
  replace ha0 := hidd ha0
  replace hra := hidd hra
  replace hb0 := hidd hb0
  replace hrb := hidd hrb
  go_wp2_with fail
  go_loopw [15, 16, 17] (fun v15 v16 v17 wr => ∃ (t m : Nat), v15 = .int .u64 (firstW a n t) ∧ v16 = .int .u64 (lastW a n t) ∧ v17 = .int .i64 (m : Int) ∧ Hid (m = n + t ∧ t ≤ q + 1) ∧ m ≤ 12 ∧ Below w.heap.size w wr) (fun _ _ v17 _ => (12 - intOf v17).toNat)
  case atStart => exact ⟨0, n, by simp [firstW, farW], by simp [lastW, farW], rfl, ⟨rfl, by omega⟩, by omega, hB⟩
  case round =>
    clear hB
    obtain ⟨t, m, rfl, rfl, rfl, hm, hm12, hB⟩ := hrel
    by_cases hlt : m < n + q + 1 ∧ m < 12
    · obtain ⟨b1, b2⟩ := hlt
      have b3 : (m : Int) < (n : Int) + (q : Int) + 1 := by omega
      have b4 : (m : Int) < 12 := by omega
      obtain ⟨D1, D2⟩ := desc_first ha0.out hra.out t (by have := hm.out.1; omega)
      have r1 := D1.2.1
      have r2 := D2.2.1
      rw [← hm.out.1] at r1 r2
      have C1 : Hid _ := cell_at D1.1 r1
      have C2 : Hid _ := cell_at D2.1 r2
      have K1 : Hid _ := kids_at D1.1 r1 b2
      have K2 : Hid _ := kids_at D2.1 r2 b2
      have O1 : Hid _ := of_child D1.1 r1 b2 0 (by omega)
      have O2 : Hid _ := of_child D2.1 r2 b2 6 (by omega)
      rw [first_step D1.2.1] at O1
      rw [last_step D2.2.1] at O2
      have hm5 : Hid (m + 1 = n + (t + 1) ∧ t + 1 ≤ q + 1) := by have := hm.out; show _ ∧ _; omega
      clear D1 D2 r1 r2 hm
      generalize firstW a n t = L1 at *
      generalize lastW a n t = L2 at *
      obtain ⟨L3, eL3⟩ : ∃ z, firstW a n (t + 1) = z := ⟨_, rfl⟩
      obtain ⟨L4, eL4⟩ : ∃ z, lastW a n (t + 1) = z := ⟨_, rfl⟩
      rw [eL3] at O1
      rw [eL4] at O2
      replace eL3 := hidd eL3
      replace eL4 := hidd eL4
      generalize cellA L1 = A1 at *
      generalize cellB L1 = B1 at *
      generalize cellA L2 = A2 at *
      generalize cellB L2 = B2 at *
      generalize kidG (m : Int) A1 B1 = G1 at *
      generalize kidG (m : Int) A2 B2 = G2 at *
      simp only [Nat.zero_mul, Nat.zero_add, Nat.reduceMul, Nat.reduceAdd] at O1 O2
      go_wp2_with fail
      refine (C1.out _ ?_).mono ?_
      · exact hT0.out.1.below hB
      rintro e v1 ⟨rfl, d1⟩
      have c1 : Below wr.heap.size wr v1 := Below.trans (by go_grown) (d1.mono (by simp; try omega))
      replace hB := belowT hB c1
      clear c1 d1
      go_wp2_with fail
      refine (C2.out _ ?_).mono ?_
      · exact hT0.out.1.below (belowT hB (by go_grown))
      rintro e v2 ⟨rfl, d2⟩
      have c2 : Below v1.heap.size v1 v2 := Below.trans (by go_grown) (d2.mono (by simp; try omega))
      have ka : v2.cell? ⟨v1.heap.size, 0, none⟩ = some (.int .i64 (m : Int)) := keepCell d2 (by go_simp)
      have qka := World.block_lt_of_cell? _ _ ka
      have kb : v2.cell? ⟨v1.heap.size, 1, none⟩ = some (.int .i64 A1) := keepCell d2 (by go_simp)
      have kc : v2.cell? ⟨v1.heap.size, 2, none⟩ = some (.int .i64 B1) := keepCell d2 (by go_simp)
      replace hB := belowT hB c2
      clear c2 d2
      go_wp2_with fail
      refine (K1.out _).mono ?_
      rintro e v3 ⟨⟨g1, cp1, rfl, hG1⟩, d3⟩
      have m0 : v3.cell? ⟨v2.heap.size, 0, none⟩ = some (.int .i64 (m : Int)) := keepCell d3 (by go_simp)
      have m1 : v3.cell? ⟨v2.heap.size, 1, none⟩ = some (.int .i64 A2) := keepCell d3 (by go_simp)
      have m2 : v3.cell? ⟨v2.heap.size, 2, none⟩ = some (.int .i64 B2) := keepCell d3 (by go_simp)
      have c3 : Below v2.heap.size v2 v3 := Below.trans (by go_grown) (d3.mono (by simp; try omega))
      replace hB := belowT hB c3
      have e0 := hG1 0 (by omega)
      have e1 := hG1 1 (by omega)
      have e2 := hG1 2 (by omega)
      clear hG1 d3 c3 C1 C2 K1 ka kb kc
      go_wp2_with fail
      refine (K2.out _).mono ?_
      rintro e v4 ⟨⟨g2, cp2, rfl, hG2⟩, d4⟩
      replace e0 := keepCell d4 e0
      replace e1 := keepCell d4 e1
      replace e2 := keepCell d4 e2
      have f0 := hG2 18 (by omega)
      have f1 := hG2 19 (by omega)
      have f2 := hG2 20 (by omega)
      replace hB := hB.trans (d4.mono hB.size)
      clear hG2 d4 K2 m0 m1 m2
      go_wp2_with fail
      refine (O1.out _ (hT0.out.1.below hB)).mono ?_
      rintro e v5 ⟨rfl, d5⟩
      replace f0 := keepCell d5 f0
      replace f1 := keepCell d5 f1
      replace f2 := keepCell d5 f2
      replace hB := hB.trans (d5.mono hB.size)
      clear d5 O1 e0 e1 e2
      go_wp2_with fail
      refine (O2.out _ (hT0.out.1.below hB)).mono ?_
      rintro e v6 ⟨rfl, d6⟩
      replace hB := hB.trans (d6.mono hB.size)
      clear d6 O2 f0 f1 f2
      go_wp2
      go_roundw
      case rel => exact ⟨t + 1, m + 1, by rw [eL3.out], by rw [eL4.out], by go_num, hm5, by omega, hB⟩
      case measure => simp [intOf]; omega
    · have ht4 : t ≤ 4 := by have := hm.out; omega
      have ht0 : 0 < t := by have := hm.out; omega
      have hnt : n + t ≤ 12 := by have := hm.out; omega
      have hm1 := hm.out.1
      have SP : Hid _ := rspread b n t hb0.out hrb.out ht4 hnt
      rw [← hm1] at SP
      have BW : Hid (∀ X, Desc b n t X → (a == b) = true ∧ firstW a n t ≤ X ∧ X ≤ lastW a n t ∨ (a == b) = false ∧ decide (firstW a n t ≤ X) = false ∨ (a == b) = false ∧ firstW a n t ≤ X ∧ decide (X ≤ lastW a n t) = false) := by
        intro X hX
        rcases between ha0.out hb0.out hra.out hrb.out hnt hX with ⟨h1, h2, h3⟩ | ⟨h1, h2⟩
        · exact .inl ⟨by simpa using h1, h2, h3⟩
        · have h1' : (a == b) = false := by simpa using h1
          by_cases h3 : firstW a n t ≤ X
          · exact .inr (.inr ⟨h1', h3, df (by omega)⟩)
          · exact .inr (.inl ⟨h1', df h3⟩)
      have hlohi := first_last (a := a) hnt ht0
      have hout : decide ((m : Int) < min ((n : Int) + (q : Int) + 1) 12) = false := df (by omega)
      have hout2 : min ((n : Int) + (q : Int) + 1) 12 ≤ (m : Int) := by omega
      clear hm hm1 hnt hlt
      generalize firstW a n t = L1 at *
      generalize lastW a n t = L2 at *
      have hal := allocB wr (.cells #[.int .u64 b] 22)
      have hc0 : (wr.alloc (.cells #[.int .u64 b] 22)).cell? ⟨wr.heap.size, 0, none⟩ = some (.int .u64 b) := by go_simp
      go_wp2_with fail
      refine (SP.out _ _ _ hc0).mono ?_
      rintro e w7 ⟨⟨g, M, cc, L, rfl, hM0, hM1, hLM, hDL, hcs⟩, d7⟩
      have hB7 := hB.trans (hal.mono hB.size)
      replace hB7 := hB7.trans (d7.mono hB7.size)
      replace hDL := hidd hDL
      replace hcs := hidd hcs
      clear SP hc0 d7 hal hB
      go_wp2_with fail
      go_loopw [32] (fun v32 w8 => ∃ i : Nat, i ≤ M ∧ v32 = .int .i64 (i : Int) ∧ Below w7.heap.size w7 w8) (fun v32 _ => M - (intOf v32).toNat)
      case atStart => exact ⟨0, by omega, rfl, Below.refl _ _⟩
      case round =>
        obtain ⟨i, hi, rfl, h8⟩ := hrel
        by_cases hiM : i < M
        · have hiL : i < L.length := by rw [hLM]; exact hiM
          have cx := keepCell h8 (hcs.out i hiL)
          have hX := BW.out _ (hDL.out _ (List.getElem_mem hiL))
          clear BW
          generalize L[i] = X at *
          rcases hX with ⟨h1, h2, h3⟩ | ⟨h1, h2⟩ | ⟨h1, h2, h3⟩
          all_goals
            go_wp2
            go_roundw
            case rel => exact ⟨i + 1, by omega, by go_num, h8⟩
            case measure => simp [intOf]; omega
        · obtain rfl : i = M := by omega
          have hB9 := hB7.trans (h8.mono hB7.size)
          have hi0 : (0 : Int) < (i : Int) := by omega
          clear BW hcs h8 hB7
          go_wp2_with fail
          refine (iawake _ (hT0.out.below hB9)).mono ?_
          rintro e w9 ⟨rfl, d9⟩
          go_wp2
          go_ret
          exact ⟨rfl, hB9.trans (d9.mono hB9.size)⟩
end Go.Proofs.YtlipbdiijjfheaaGreatDoor
