/-
  The law IdentRises answers true for every five numbers, in whatever memory where the tables hold what their texts lay: words of one size stand as their parents' do, then by their digits.
-/
import Derived.Test.YtlipbdiijjfheabGreatDoorRWord
import Derived.Test.YtlipbdiijjfheabGreatDoorICell
import Derived.Test.YtlipbdiijjfheabGreatDoorIAwake
namespace Go.Proofs.YtlipbdiijjfheabGreatDoor
open Go.RowKit

/-- The size that a number makes. -/
def szOf (r : Int) : Int := (r.tmod 13 + 13).tmod 13
theorem csome_sz (x0 y0 r0 : Int) : 0 ≤ szOf r0 ∧ szOf r0 ≤ 12 ∧ ∀ w, Calls Tryz.prog 11 #[.int .i64 x0, .int .i64 y0, .int .i64 r0] w fun e w' => TellsS (szOf r0) e ∧ Below w.heap.size w w' := by
  obtain ⟨t, s, K, ht, hs, t1, t2, hK, hr⟩ := size13 r0
  have e : szOf r0 = s := by unfold szOf; rw [ht, hs]
  rw [e]
  refine ⟨by omega, by omega, fun w => ?_⟩
  cases h0 : (bits .and .i64 y0 1 == 0) with
  | true =>
    obtain ⟨u, v, hw, PT⟩ := point_any x0 y0
    obtain ⟨a, b, hn⟩ := nearest_some (dvK_box (K := K) hK).1 (nuA K u v) (nuB K u v)
    exact (csome_point x0 y0 r0 t s _ u v a b ht hs t1 t2 rfl h0 PT (rnear_at u v s K hK hr hw a b hn) w).mono fun e w' ⟨he, hb⟩ => ⟨⟨a, b, he, near_ok hK hr hw hn⟩, hb⟩
  | false =>
    obtain ⟨n, rfl⟩ := Int.eq_ofNat_of_zero_le (show 0 ≤ s by omega)
    exact csome_down x0 y0 r0 t n (by omega) _ ht hs t1 t2 rfl h0 w

/-- Behind a word's digits stand sevens. -/
theorem word_tail {s : Nat} {P Q : Int} (hs : s ≤ 12) : wordOf s P Q % 8 ^ (12 - s) = 8 ^ (12 - s) - 1 := by
  have h7 : ∀ j, s < j → dgs s P Q j = 7 := fun j hj => (dgs_seven s P Q j).2 hj
  have hw : wordOf s P Q = (16777216 + (s : Int) * 1048576 + ((ups s P Q).1 + 512) * 1024 + ((ups s P Q).2 + 512)) * 68719476736 + lowD (dgs s P Q) := by unfold wordOf wd headD; omega
  unfold lowD at hw
  generalize 16777216 + (s : Int) * 1048576 + ((ups s P Q).1 + 512) * 1024 + ((ups s P Q).2 + 512) = H at hw
  rw [hw]
  generalize dgs s P Q = d at *
  clear hw
  have hc : s = 0 ∨ s = 1 ∨ s = 2 ∨ s = 3 ∨ s = 4 ∨ s = 5 ∨ s = 6 ∨ s = 7 ∨ s = 8 ∨ s = 9 ∨ s = 10 ∨ s = 11 ∨ s = 12 := by omega
  have h12 : s < 12 → d 12 = 7 := h7 12
  have h11 : s < 11 → d 11 = 7 := h7 11
  have h10 : s < 10 → d 10 = 7 := h7 10
  have h9 : s < 9 → d 9 = 7 := h7 9
  have h8 : s < 8 → d 8 = 7 := h7 8
  have h7' : s < 7 → d 7 = 7 := h7 7
  have h6 : s < 6 → d 6 = 7 := h7 6
  have h5 : s < 5 → d 5 = 7 := h7 5
  have h4 : s < 4 → d 4 = 7 := h7 4
  have h3 : s < 3 → d 3 = 7 := h7 3
  have h2 : s < 2 → d 2 = 7 := h7 2
  have h1 : s < 1 → d 1 = 7 := h7 1
  clear h7
  rcases hc with rfl | rfl | rfl | rfl | rfl | rfl | rfl | rfl | rfl | rfl | rfl | rfl | rfl <;> simp at * <;> omega
/-- How words of one size rise. -/
theorem word_rise {s : Nat} {P Q U V : Int} (hs : s ≤ 12) (h1 : 1 ≤ s) (hO : Ok4 (s : Int) P Q) (hO' : Ok4 (s : Int) U V) (hle : wordOf s P Q ≤ wordOf s U V) :
    upW (wordOf s P Q) ≤ upW (wordOf s U V) ∧ (upW (wordOf s P Q) = upW (wordOf s U V) → (dig P Q < dig U V ↔ wordOf s P Q < wordOf s U V)) ∧ (upW (wordOf s P Q) ≠ upW (wordOf s U V) → wordOf s P Q < wordOf s U V) := by
  have e : ∀ {P Q : Int}, Ok4 (s : Int) P Q → upW (wordOf s P Q) = wordOf s P Q - dig P Q * 8 ^ (12 - s) + 7 * 8 ^ (12 - s) - 72057594037927936 ∧ wordOf s P Q / 8 ^ (12 - s) % 8 = dig P Q := by
    intro P Q h
    have hp := word_parts h
    have hd : dg (wordOf s P Q) s = dig P Q := by
      rw [hp.2.2.2.2.1 s h1 hs]
      unfold dgs
      rw [if_pos (by omega), Nat.sub_self]
      rfl
    refine ⟨?_, hd⟩
    unfold upW setD
    rw [hp.2.1, show ((s : Int)).toNat = s by omega, hd]
  obtain ⟨a1, a2⟩ := e hO
  obtain ⟨b1, b2⟩ := e hO'
  have a3 := word_tail (P := P) (Q := Q) hs
  have b3 := word_tail (P := U) (Q := V) hs
  rw [a1, b1]
  generalize wordOf s P Q = a at *
  generalize wordOf s U V = b at *
  generalize dig P Q = d at *
  generalize dig U V = f at *
  clear a1 b1 hO hO' e
  rcases twelve h1 hs with rfl | rfl | rfl | rfl | rfl | rfl | rfl | rfl | rfl | rfl | rfl | rfl <;> simp at * <;> omega
set_option maxHeartbeats 16000000 in
set_option maxRecDepth 20000 in
theorem identRises_walk (x y u v r : Int) (w : World) (hT : Five w) :
    Calls Tryz.prog 3 #[.int .i64 x, .int .i64 y, .int .i64 u, .int .i64 v, .int .i64 r] w fun e w' => e = .returned (.bool true) ∧ Below w.heap.size w w' := by
  obtain ⟨z0, z12, S1⟩ := csome_sz x y r
  obtain ⟨_, _, S2⟩ := csome_sz u v r
  obtain ⟨s, hs⟩ := Int.eq_ofNat_of_zero_le z0
  rw [hs] at S1 S2
  have A1 : Hid _ := aword_at x y r s S1
  have A2 : Hid _ := aword_at u v r s S2
  have hs12 : s ≤ 12 := by omega
  have hT0 : Hid (Five w) := hT
  clear hT S1 S2 hs z0 z12
  go_enter Tryz.func3, Tryz.ntmps3
  go_wp2_with fail
  refine (A1.out _).mono ?_
  rintro e w1 ⟨⟨P, Q, rfl, hO⟩, d1⟩
  have c1 : Below w.heap.size w w1 := Below.trans (by go_grown) (d1.mono (by simp; try omega))
  have hB := c1
  clear c1 d1
  go_wp2_with fail
  refine (A2.out _).mono ?_
  rintro e w2 ⟨⟨U, V, rfl, hO2⟩, d2⟩
  have c2 : Below w1.heap.size w1 w2 := Below.trans (by go_grown) (d2.mono (by simp; try omega))
  replace hB := belowT hB c2
  clear c2 d2
  clear A1 A2
  by_cases hgt : wordOf s U V < wordOf s P Q
  · have q0 : decide (wordOf s U V < wordOf s P Q) = true := decide_eq_true hgt
    have hpA := word_parts hO2
    have hpB := word_parts hO
    have RA : Hid (∀ w, Calls Tryz.prog 5 #[.int .u64 (wordOf s U V)] w fun e w' => e = .returned (.int .i64 (s : Int)) ∧ Below w.heap.size w w') := fun w => by
      have := ires_yes _ hpA.1 w
      rwa [hpA.2.1] at this
    by_cases h0 : s = 0
    · have e0 : ((s : Int) == 0) = true := by simp; omega
      clear hpA hpB
      generalize wordOf s U V = WA at *
      generalize wordOf s P Q = WB at *
      go_wp2_with fail
      refine (RA.out _).mono ?_
      rintro e w3 ⟨rfl, d3⟩
      have c3 : Below w2.heap.size w2 w3 := Below.trans (by go_grown) (d3.mono (by simp; try omega))
      replace hB := belowT hB c3
      clear c3 d3
      go_wp2_with fail
      refine (iawake _ ?_).mono ?_
      · exact hT0.out.below (belowT hB (by go_grown))
      rintro e w4 ⟨rfl, d4⟩
      have c4 : Below w3.heap.size w3 w4 := Below.trans (by go_grown) (d4.mono (by simp; try omega))
      replace hB := belowT hB c4
      clear c4 d4
      go_wp2
      go_ret
      exact ⟨rfl, hB⟩
    · skip
      have e0 : ((s : Int) == 0) = false := by simp; omega
      have PA : Hid (∀ w, Calls Tryz.prog 7 #[.int .u64 (wordOf s U V)] w fun e w' => e = .returned (.tuple #[.int .u64 (upW (wordOf s U V)), .int .i64 0]) ∧ Below w.heap.size w w') := iparent_yes _ hpA.1 (by rw [hpA.2.1]; omega)
      have PB : Hid (∀ w, Calls Tryz.prog 7 #[.int .u64 (wordOf s P Q)] w fun e w' => e = .returned (.tuple #[.int .u64 (upW (wordOf s P Q)), .int .i64 0]) ∧ Below w.heap.size w w') := iparent_yes _ hpB.1 (by rw [hpB.2.1]; omega)
      have CA : Hid (∀ w, Tabs w → Calls Tryz.prog 8 #[.int .u64 (wordOf s U V)] w fun e w' => e = .returned (.tuple #[.agg #[.int .i64 (s : Int), .int .i64 U, .int .i64 V], .int .i64 0]) ∧ Below w.heap.size w w') := fun w hT => by
        have := icell_yes _ hpA.1 w hT
        rwa [hpA.2.1, (cell_word hO2).1, (cell_word hO2).2] at this
      have CB : Hid (∀ w, Tabs w → Calls Tryz.prog 8 #[.int .u64 (wordOf s P Q)] w fun e w' => e = .returned (.tuple #[.agg #[.int .i64 (s : Int), .int .i64 P, .int .i64 Q], .int .i64 0]) ∧ Below w.heap.size w w') := fun w hT => by
        have := icell_yes _ hpB.1 w hT
        rwa [hpB.2.1, (cell_word hO).1, (cell_word hO).2] at this
      have DA : Hid (∀ w, Tabs w → Calls Tryz.prog 9 #[.agg #[.int .i64 (s : Int), .int .i64 U, .int .i64 V]] w fun e w' => e = .returned (.int .i64 (dig U V)) ∧ Below w.heap.size w w') := fun w hT => cdigit_yes _ _ _ hO2 (by omega) w hT
      have DB : Hid (∀ w, Tabs w → Calls Tryz.prog 9 #[.agg #[.int .i64 (s : Int), .int .i64 P, .int .i64 Q]] w fun e w' => e = .returned (.int .i64 (dig P Q)) ∧ Below w.heap.size w w') := fun w hT => cdigit_yes _ _ _ hO (by omega) w hT
      obtain ⟨h1, h2, h3⟩ := word_rise hs12 (by omega) hO2 hO (by omega)
      clear hpA hpB
      generalize upW (wordOf s U V) = UA at *
      generalize upW (wordOf s P Q) = UB at *
      generalize wordOf s U V = WA at *
      generalize wordOf s P Q = WB at *
      generalize dig U V = dA at *
      generalize dig P Q = dB at *
      have e1 : decide (UB < UA) = false := df (by omega)
      by_cases he : UA = UB
      · subst he
        have h2' := h2 rfl
        clear h2 h3 h1
        obtain ⟨bb, b1, b2⟩ : ∃ bb, decide (dA < dB) = bb ∧ decide (WA < WB) = bb := ⟨_, rfl, by rw [decide_eq_decide]; exact h2'.symm⟩
        clear h2'
        obtain rfl : bb = true := by rw [← b2]; exact decide_eq_true hgt
        go_wp2_with fail
        refine (RA.out _).mono ?_
        rintro e w3 ⟨rfl, d3⟩
        have c3 : Below w2.heap.size w2 w3 := Below.trans (by go_grown) (d3.mono (by simp; try omega))
        replace hB := belowT hB c3
        clear c3 d3
        go_wp2_with fail
        refine (PA.out _).mono ?_
        rintro e w4 ⟨rfl, d4⟩
        have c4 : Below w3.heap.size w3 w4 := Below.trans (by go_grown) (d4.mono (by simp; try omega))
        replace hB := belowT hB c4
        clear c4 d4
        go_wp2_with fail
        refine (PB.out _).mono ?_
        rintro e w5 ⟨rfl, d5⟩
        have c5 : Below w4.heap.size w4 w5 := Below.trans (by go_grown) (d5.mono (by simp; try omega))
        replace hB := belowT hB c5
        clear c5 d5
        go_wp2_with fail
        refine (CA.out _ ?_).mono ?_
        · exact hT0.out.1.below (belowT hB (by go_grown))
        rintro e w6 ⟨rfl, d6⟩
        have c6 : Below w5.heap.size w5 w6 := Below.trans (by go_grown) (d6.mono (by simp; try omega))
        replace hB := belowT hB c6
        clear c6 d6
        go_wp2_with fail
        refine (CB.out _ ?_).mono ?_
        · exact hT0.out.1.below (belowT hB (by go_grown))
        rintro e w7 ⟨rfl, d7⟩
        have c7 : Below w6.heap.size w6 w7 := Below.trans (by go_grown) (d7.mono (by simp; try omega))
        have k0 : w7.cell? ⟨w6.heap.size, 0, none⟩ = some (.int .i64 (s : Int)) := keepCell d7 (by go_simp)
        have qk0 := World.block_lt_of_cell? _ _ k0
        have k1 : w7.cell? ⟨w6.heap.size, 1, none⟩ = some (.int .i64 U) := keepCell d7 (by go_simp)
        have k2 : w7.cell? ⟨w6.heap.size, 2, none⟩ = some (.int .i64 V) := keepCell d7 (by go_simp)
        replace hB := belowT hB c7
        clear c7 d7
        have hal := (allocB w7 (.cells #[.int .i64 (s : Int), .int .i64 P, .int .i64 Q] 32)).drew
        have d0 : (w7.alloc (.cells #[.int .i64 (s : Int), .int .i64 P, .int .i64 Q] 32)).drew.cell? ⟨w7.heap.size, 0, none⟩ = some (.int .i64 (s : Int)) := by go_simp
        have d1 : (w7.alloc (.cells #[.int .i64 (s : Int), .int .i64 P, .int .i64 Q] 32)).drew.cell? ⟨w7.heap.size, 1, none⟩ = some (.int .i64 P) := by go_simp
        have d2 : (w7.alloc (.cells #[.int .i64 (s : Int), .int .i64 P, .int .i64 Q] 32)).drew.cell? ⟨w7.heap.size, 2, none⟩ = some (.int .i64 Q) := by go_simp
        have hS0 : (w7.alloc (.cells #[.int .i64 (s : Int), .int .i64 P, .int .i64 Q] 32)).drew.cell? ⟨w6.heap.size, 0, none⟩ = some (.int .i64 (s : Int)) ∧ (w7.alloc (.cells #[.int .i64 (s : Int), .int .i64 P, .int .i64 Q] 32)).drew.cell? ⟨w6.heap.size, 1, none⟩ = some (.int .i64 U) ∧ (w7.alloc (.cells #[.int .i64 (s : Int), .int .i64 P, .int .i64 Q] 32)).drew.cell? ⟨w6.heap.size, 2, none⟩ = some (.int .i64 V)
            ∧ (w7.alloc (.cells #[.int .i64 (s : Int), .int .i64 P, .int .i64 Q] 32)).drew.cell? ⟨w7.heap.size, 0, none⟩ = some (.int .i64 (s : Int)) ∧ (w7.alloc (.cells #[.int .i64 (s : Int), .int .i64 P, .int .i64 Q] 32)).drew.cell? ⟨w7.heap.size, 1, none⟩ = some (.int .i64 P) ∧ (w7.alloc (.cells #[.int .i64 (s : Int), .int .i64 P, .int .i64 Q] 32)).drew.cell? ⟨w7.heap.size, 2, none⟩ = some (.int .i64 Q)
            ∧ Below w.heap.size w (w7.alloc (.cells #[.int .i64 (s : Int), .int .i64 P, .int .i64 Q] 32)).drew := ⟨keepCell hal k0, keepCell hal k1, keepCell hal k2, d0, d1, d2, belowT hB hal⟩
        have hTS : Hid (∀ wx, (wx.cell? ⟨w6.heap.size, 0, none⟩ = some (.int .i64 (s : Int)) ∧ wx.cell? ⟨w6.heap.size, 1, none⟩ = some (.int .i64 U) ∧ wx.cell? ⟨w6.heap.size, 2, none⟩ = some (.int .i64 V) ∧ wx.cell? ⟨w7.heap.size, 0, none⟩ = some (.int .i64 (s : Int)) ∧ wx.cell? ⟨w7.heap.size, 1, none⟩ = some (.int .i64 P) ∧ wx.cell? ⟨w7.heap.size, 2, none⟩ = some (.int .i64 Q) ∧ Below w.heap.size w wx) → Five wx) := fun wx h => hT0.out.below h.2.2.2.2.2.2
        have hTA : Hid (∀ wx, (wx.cell? ⟨w6.heap.size, 0, none⟩ = some (.int .i64 (s : Int)) ∧ wx.cell? ⟨w6.heap.size, 1, none⟩ = some (.int .i64 U) ∧ wx.cell? ⟨w6.heap.size, 2, none⟩ = some (.int .i64 V) ∧ wx.cell? ⟨w7.heap.size, 0, none⟩ = some (.int .i64 (s : Int)) ∧ wx.cell? ⟨w7.heap.size, 1, none⟩ = some (.int .i64 P) ∧ wx.cell? ⟨w7.heap.size, 2, none⟩ = some (.int .i64 Q) ∧ Below w.heap.size w wx) → Tabs wx) := fun wx h => hT0.out.1.below h.2.2.2.2.2.2
        go_wp2_with fail
        go_region_held3 (fun w' => w'.cell? ⟨w6.heap.size, 0, none⟩ = some (.int .i64 (s : Int)) ∧ w'.cell? ⟨w6.heap.size, 1, none⟩ = some (.int .i64 U) ∧ w'.cell? ⟨w6.heap.size, 2, none⟩ = some (.int .i64 V) ∧ w'.cell? ⟨w7.heap.size, 0, none⟩ = some (.int .i64 (s : Int)) ∧ w'.cell? ⟨w7.heap.size, 1, none⟩ = some (.int .i64 P) ∧ w'.cell? ⟨w7.heap.size, 2, none⟩ = some (.int .i64 Q) ∧ Below w.heap.size w w') (first | exact hS0 | exact keepSix hb (by assumption))
          (first | (go_at_call 9; with_reducible refine (DA.out _ (hTA.out _ (by assumption))).mono ?_; rintro e w' ⟨rfl, hb⟩) | (go_at_call 9; with_reducible refine (DB.out _ (hTA.out _ (by assumption))).mono ?_; rintro e w' ⟨rfl, hb⟩) | (go_at_call 6; refine (iawake _ (hTS.out _ (by assumption))).mono ?_; rintro e w' ⟨rfl, hb⟩))
        rename_i hS
        have hW := hS.2.2.2.2.2.2
        clear hS0 hTS hTA hS
        go_wp2
        go_ret
        exact ⟨by first | rfl | simp, hW⟩
      · skip
        have h3' := h3 he
        have e2 : (UA == UB) = false := by simpa using he
        have b2 : decide (WA < WB) = true := decide_eq_true h3'
        clear h1 h2 h3
        go_wp2_with fail
        refine (RA.out _).mono ?_
        rintro e w3 ⟨rfl, d3⟩
        have c3 : Below w2.heap.size w2 w3 := Below.trans (by go_grown) (d3.mono (by simp; try omega))
        replace hB := belowT hB c3
        clear c3 d3
        go_wp2_with fail
        refine (PA.out _).mono ?_
        rintro e w4 ⟨rfl, d4⟩
        have c4 : Below w3.heap.size w3 w4 := Below.trans (by go_grown) (d4.mono (by simp; try omega))
        replace hB := belowT hB c4
        clear c4 d4
        go_wp2_with fail
        refine (PB.out _).mono ?_
        rintro e w5 ⟨rfl, d5⟩
        have c5 : Below w4.heap.size w4 w5 := Below.trans (by go_grown) (d5.mono (by simp; try omega))
        replace hB := belowT hB c5
        clear c5 d5
        go_wp2_with fail
        refine (iawake _ ?_).mono ?_
        · exact hT0.out.below (belowT hB (by go_grown))
        rintro e w6 ⟨rfl, d6⟩
        have c6 : Below w5.heap.size w5 w6 := Below.trans (by go_grown) (d6.mono (by simp; try omega))
        replace hB := belowT hB c6
        clear c6 d6
        go_wp2
        go_ret
        exact ⟨rfl, hB⟩
  · skip
    have q0 : decide (wordOf s U V < wordOf s P Q) = false := df hgt
    have hpA := word_parts hO
    have hpB := word_parts hO2
    have RA : Hid (∀ w, Calls Tryz.prog 5 #[.int .u64 (wordOf s P Q)] w fun e w' => e = .returned (.int .i64 (s : Int)) ∧ Below w.heap.size w w') := fun w => by
      have := ires_yes _ hpA.1 w
      rwa [hpA.2.1] at this
    by_cases h0 : s = 0
    · have e0 : ((s : Int) == 0) = true := by simp; omega
      clear hpA hpB
      generalize wordOf s P Q = WA at *
      generalize wordOf s U V = WB at *
      go_wp2_with fail
      refine (RA.out _).mono ?_
      rintro e w3 ⟨rfl, d3⟩
      have c3 : Below w2.heap.size w2 w3 := Below.trans (by go_grown) (d3.mono (by simp; try omega))
      replace hB := belowT hB c3
      clear c3 d3
      go_wp2_with fail
      refine (iawake _ ?_).mono ?_
      · exact hT0.out.below (belowT hB (by go_grown))
      rintro e w4 ⟨rfl, d4⟩
      have c4 : Below w3.heap.size w3 w4 := Below.trans (by go_grown) (d4.mono (by simp; try omega))
      replace hB := belowT hB c4
      clear c4 d4
      go_wp2
      go_ret
      exact ⟨rfl, hB⟩
    · skip
      have e0 : ((s : Int) == 0) = false := by simp; omega
      have PA : Hid (∀ w, Calls Tryz.prog 7 #[.int .u64 (wordOf s P Q)] w fun e w' => e = .returned (.tuple #[.int .u64 (upW (wordOf s P Q)), .int .i64 0]) ∧ Below w.heap.size w w') := iparent_yes _ hpA.1 (by rw [hpA.2.1]; omega)
      have PB : Hid (∀ w, Calls Tryz.prog 7 #[.int .u64 (wordOf s U V)] w fun e w' => e = .returned (.tuple #[.int .u64 (upW (wordOf s U V)), .int .i64 0]) ∧ Below w.heap.size w w') := iparent_yes _ hpB.1 (by rw [hpB.2.1]; omega)
      have CA : Hid (∀ w, Tabs w → Calls Tryz.prog 8 #[.int .u64 (wordOf s P Q)] w fun e w' => e = .returned (.tuple #[.agg #[.int .i64 (s : Int), .int .i64 P, .int .i64 Q], .int .i64 0]) ∧ Below w.heap.size w w') := fun w hT => by
        have := icell_yes _ hpA.1 w hT
        rwa [hpA.2.1, (cell_word hO).1, (cell_word hO).2] at this
      have CB : Hid (∀ w, Tabs w → Calls Tryz.prog 8 #[.int .u64 (wordOf s U V)] w fun e w' => e = .returned (.tuple #[.agg #[.int .i64 (s : Int), .int .i64 U, .int .i64 V], .int .i64 0]) ∧ Below w.heap.size w w') := fun w hT => by
        have := icell_yes _ hpB.1 w hT
        rwa [hpB.2.1, (cell_word hO2).1, (cell_word hO2).2] at this
      have DA : Hid (∀ w, Tabs w → Calls Tryz.prog 9 #[.agg #[.int .i64 (s : Int), .int .i64 P, .int .i64 Q]] w fun e w' => e = .returned (.int .i64 (dig P Q)) ∧ Below w.heap.size w w') := fun w hT => cdigit_yes _ _ _ hO (by omega) w hT
      have DB : Hid (∀ w, Tabs w → Calls Tryz.prog 9 #[.agg #[.int .i64 (s : Int), .int .i64 U, .int .i64 V]] w fun e w' => e = .returned (.int .i64 (dig U V)) ∧ Below w.heap.size w w') := fun w hT => cdigit_yes _ _ _ hO2 (by omega) w hT
      obtain ⟨h1, h2, h3⟩ := word_rise hs12 (by omega) hO hO2 (by omega)
      clear hpA hpB
      generalize upW (wordOf s P Q) = UA at *
      generalize upW (wordOf s U V) = UB at *
      generalize wordOf s P Q = WA at *
      generalize wordOf s U V = WB at *
      generalize dig P Q = dA at *
      generalize dig U V = dB at *
      have e1 : decide (UB < UA) = false := df (by omega)
      by_cases he : UA = UB
      · subst he
        have h2' := h2 rfl
        clear h2 h3 h1
        obtain ⟨bb, b1, b2⟩ : ∃ bb, decide (dA < dB) = bb ∧ decide (WA < WB) = bb := ⟨_, rfl, by rw [decide_eq_decide]; exact h2'.symm⟩
        clear h2'
        go_wp2_with fail
        refine (RA.out _).mono ?_
        rintro e w3 ⟨rfl, d3⟩
        have c3 : Below w2.heap.size w2 w3 := Below.trans (by go_grown) (d3.mono (by simp; try omega))
        replace hB := belowT hB c3
        clear c3 d3
        go_wp2_with fail
        refine (PA.out _).mono ?_
        rintro e w4 ⟨rfl, d4⟩
        have c4 : Below w3.heap.size w3 w4 := Below.trans (by go_grown) (d4.mono (by simp; try omega))
        replace hB := belowT hB c4
        clear c4 d4
        go_wp2_with fail
        refine (PB.out _).mono ?_
        rintro e w5 ⟨rfl, d5⟩
        have c5 : Below w4.heap.size w4 w5 := Below.trans (by go_grown) (d5.mono (by simp; try omega))
        replace hB := belowT hB c5
        clear c5 d5
        go_wp2_with fail
        refine (CA.out _ ?_).mono ?_
        · exact hT0.out.1.below (belowT hB (by go_grown))
        rintro e w6 ⟨rfl, d6⟩
        have c6 : Below w5.heap.size w5 w6 := Below.trans (by go_grown) (d6.mono (by simp; try omega))
        replace hB := belowT hB c6
        clear c6 d6
        go_wp2_with fail
        refine (CB.out _ ?_).mono ?_
        · exact hT0.out.1.below (belowT hB (by go_grown))
        rintro e w7 ⟨rfl, d7⟩
        have c7 : Below w6.heap.size w6 w7 := Below.trans (by go_grown) (d7.mono (by simp; try omega))
        have k0 : w7.cell? ⟨w6.heap.size, 0, none⟩ = some (.int .i64 (s : Int)) := keepCell d7 (by go_simp)
        have qk0 := World.block_lt_of_cell? _ _ k0
        have k1 : w7.cell? ⟨w6.heap.size, 1, none⟩ = some (.int .i64 P) := keepCell d7 (by go_simp)
        have k2 : w7.cell? ⟨w6.heap.size, 2, none⟩ = some (.int .i64 Q) := keepCell d7 (by go_simp)
        replace hB := belowT hB c7
        clear c7 d7
        have hal := (allocB w7 (.cells #[.int .i64 (s : Int), .int .i64 U, .int .i64 V] 32)).drew
        have d0 : (w7.alloc (.cells #[.int .i64 (s : Int), .int .i64 U, .int .i64 V] 32)).drew.cell? ⟨w7.heap.size, 0, none⟩ = some (.int .i64 (s : Int)) := by go_simp
        have d1 : (w7.alloc (.cells #[.int .i64 (s : Int), .int .i64 U, .int .i64 V] 32)).drew.cell? ⟨w7.heap.size, 1, none⟩ = some (.int .i64 U) := by go_simp
        have d2 : (w7.alloc (.cells #[.int .i64 (s : Int), .int .i64 U, .int .i64 V] 32)).drew.cell? ⟨w7.heap.size, 2, none⟩ = some (.int .i64 V) := by go_simp
        have hS0 : (w7.alloc (.cells #[.int .i64 (s : Int), .int .i64 U, .int .i64 V] 32)).drew.cell? ⟨w6.heap.size, 0, none⟩ = some (.int .i64 (s : Int)) ∧ (w7.alloc (.cells #[.int .i64 (s : Int), .int .i64 U, .int .i64 V] 32)).drew.cell? ⟨w6.heap.size, 1, none⟩ = some (.int .i64 P) ∧ (w7.alloc (.cells #[.int .i64 (s : Int), .int .i64 U, .int .i64 V] 32)).drew.cell? ⟨w6.heap.size, 2, none⟩ = some (.int .i64 Q)
            ∧ (w7.alloc (.cells #[.int .i64 (s : Int), .int .i64 U, .int .i64 V] 32)).drew.cell? ⟨w7.heap.size, 0, none⟩ = some (.int .i64 (s : Int)) ∧ (w7.alloc (.cells #[.int .i64 (s : Int), .int .i64 U, .int .i64 V] 32)).drew.cell? ⟨w7.heap.size, 1, none⟩ = some (.int .i64 U) ∧ (w7.alloc (.cells #[.int .i64 (s : Int), .int .i64 U, .int .i64 V] 32)).drew.cell? ⟨w7.heap.size, 2, none⟩ = some (.int .i64 V)
            ∧ Below w.heap.size w (w7.alloc (.cells #[.int .i64 (s : Int), .int .i64 U, .int .i64 V] 32)).drew := ⟨keepCell hal k0, keepCell hal k1, keepCell hal k2, d0, d1, d2, belowT hB hal⟩
        have hTS : Hid (∀ wx, (wx.cell? ⟨w6.heap.size, 0, none⟩ = some (.int .i64 (s : Int)) ∧ wx.cell? ⟨w6.heap.size, 1, none⟩ = some (.int .i64 P) ∧ wx.cell? ⟨w6.heap.size, 2, none⟩ = some (.int .i64 Q) ∧ wx.cell? ⟨w7.heap.size, 0, none⟩ = some (.int .i64 (s : Int)) ∧ wx.cell? ⟨w7.heap.size, 1, none⟩ = some (.int .i64 U) ∧ wx.cell? ⟨w7.heap.size, 2, none⟩ = some (.int .i64 V) ∧ Below w.heap.size w wx) → Five wx) := fun wx h => hT0.out.below h.2.2.2.2.2.2
        have hTA : Hid (∀ wx, (wx.cell? ⟨w6.heap.size, 0, none⟩ = some (.int .i64 (s : Int)) ∧ wx.cell? ⟨w6.heap.size, 1, none⟩ = some (.int .i64 P) ∧ wx.cell? ⟨w6.heap.size, 2, none⟩ = some (.int .i64 Q) ∧ wx.cell? ⟨w7.heap.size, 0, none⟩ = some (.int .i64 (s : Int)) ∧ wx.cell? ⟨w7.heap.size, 1, none⟩ = some (.int .i64 U) ∧ wx.cell? ⟨w7.heap.size, 2, none⟩ = some (.int .i64 V) ∧ Below w.heap.size w wx) → Tabs wx) := fun wx h => hT0.out.1.below h.2.2.2.2.2.2
        go_wp2_with fail
        go_region_held3 (fun w' => w'.cell? ⟨w6.heap.size, 0, none⟩ = some (.int .i64 (s : Int)) ∧ w'.cell? ⟨w6.heap.size, 1, none⟩ = some (.int .i64 P) ∧ w'.cell? ⟨w6.heap.size, 2, none⟩ = some (.int .i64 Q) ∧ w'.cell? ⟨w7.heap.size, 0, none⟩ = some (.int .i64 (s : Int)) ∧ w'.cell? ⟨w7.heap.size, 1, none⟩ = some (.int .i64 U) ∧ w'.cell? ⟨w7.heap.size, 2, none⟩ = some (.int .i64 V) ∧ Below w.heap.size w w') (first | exact hS0 | exact keepSix hb (by assumption))
          (first | (go_at_call 9; with_reducible refine (DA.out _ (hTA.out _ (by assumption))).mono ?_; rintro e w' ⟨rfl, hb⟩) | (go_at_call 9; with_reducible refine (DB.out _ (hTA.out _ (by assumption))).mono ?_; rintro e w' ⟨rfl, hb⟩) | (go_at_call 6; refine (iawake _ (hTS.out _ (by assumption))).mono ?_; rintro e w' ⟨rfl, hb⟩))
        rename_i hS
        have hW := hS.2.2.2.2.2.2
        clear hS0 hTS hTA hS
        go_wp2
        go_ret
        exact ⟨by first | rfl | simp, hW⟩
      · skip
        have h3' := h3 he
        have e2 : (UA == UB) = false := by simpa using he
        have b2 : decide (WA < WB) = true := decide_eq_true h3'
        clear h1 h2 h3
        go_wp2_with fail
        refine (RA.out _).mono ?_
        rintro e w3 ⟨rfl, d3⟩
        have c3 : Below w2.heap.size w2 w3 := Below.trans (by go_grown) (d3.mono (by simp; try omega))
        replace hB := belowT hB c3
        clear c3 d3
        go_wp2_with fail
        refine (PA.out _).mono ?_
        rintro e w4 ⟨rfl, d4⟩
        have c4 : Below w3.heap.size w3 w4 := Below.trans (by go_grown) (d4.mono (by simp; try omega))
        replace hB := belowT hB c4
        clear c4 d4
        go_wp2_with fail
        refine (PB.out _).mono ?_
        rintro e w5 ⟨rfl, d5⟩
        have c5 : Below w4.heap.size w4 w5 := Below.trans (by go_grown) (d5.mono (by simp; try omega))
        replace hB := belowT hB c5
        clear c5 d5
        go_wp2_with fail
        refine (iawake _ ?_).mono ?_
        · exact hT0.out.below (belowT hB (by go_grown))
        rintro e w6 ⟨rfl, d6⟩
        have c6 : Below w5.heap.size w5 w6 := Below.trans (by go_grown) (d6.mono (by simp; try omega))
        replace hB := belowT hB c6
        clear c6 d6
        go_wp2
        go_ret
        exact ⟨rfl, hB⟩
end Go.Proofs.YtlipbdiijjfheabGreatDoor
