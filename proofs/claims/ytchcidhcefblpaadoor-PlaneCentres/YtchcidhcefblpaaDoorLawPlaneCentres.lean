/-
  The law PlaneCentres answers true for every number of the lattice and every size, in whatever memory where the package's table of ways holds what its text lays: where a centre lies, and the corners of its hexagon, are told as the document's own answer has it, or refused alike; so is how wide a cell is.
-/
import Derived.Test.YtchcidhcefblpaaDoorPWidth
import Derived.Test.YtchcidhcefblpaaDoorPPoint
import Derived.Test.YtchcidhcefblpaaDoorEqPair
import Derived.Test.YtchcidhcefblpaaDoorRefHex
import Derived.Test.YtchcidhcefblpaaDoorRefSeven
namespace Go.Proofs.YtchcidhcefblpaaDoor
open Go.RowKit

theorem hex_full {B : Nat} {G : Nat → Int} {w : World} (h : HexRel B G 6 w) (o : Nat) (ho : o < 12) : w.cell? ⟨B, o, none⟩ = some (.int .i64 (G o)) := by
  have h0 := (h o ho).1
  have e : hexAt G 6 o = G o := if_pos (by omega)
  rwa [e] at h0
/-- Twelve cells that hold the numbers of G. -/
def Hex12 (B : Nat) (G : Nat → Int) (w : World) : Prop := ∀ o < 12, w.cell? ⟨B, o, none⟩ = some (.int .i64 (G o))
theorem Hex12.keep {a b : World} {B : Nat} {G : Nat → Int} (hb : Below a.heap.size a b) (h : Hex12 B G a) : Hex12 B G b := fun o ho => keepCell hb (h o ho)
theorem Hex12.drew {a : World} {B : Nat} {G : Nat → Int} (n : Nat) (h : Hex12 B G a) : Hex12 B G (a.drewN n) := fun o ho => h o ho

set_option maxHeartbeats 8000000 in
set_option maxRecDepth 20000 in
theorem planeCentres_walk (a0 b0 r0 : Int) (w : World) (hW : Ways w) :
    Calls Tryd.prog 4 #[.agg #[.int .i64 a0, .int .i64 b0], .int .i64 r0] w fun e w' => e = .returned (.bool true) ∧ Below w.heap.size w w' := by
  have hW0 : Hid (Ways w) := hW
  clear hW
  go_enter Tryd.func4, Tryd.ntmps4
  go_wp2_with fail
  go_loopw [1, 5] (fun v1 v5 wr => ∃ (a b r : Int) (i : Nat), i ≤ 2 ∧ v1 = .int .i64 r ∧ v5 = .int .i64 (i : Int) ∧ wr.cell? ⟨w.heap.size, 0, none⟩ = some (.int .i64 a) ∧ wr.cell? ⟨w.heap.size, 1, none⟩ = some (.int .i64 b) ∧ wr.frozen? ⟨w.heap.size, 0, none⟩ = false ∧ wr.frozen? ⟨w.heap.size, 1, none⟩ = false ∧ (i = 2 → 0 ≤ r ∧ r ≤ 12) ∧ Below w.heap.size w wr) (fun _ v5 _ => 2 - (intOf v5).toNat)
  case atStart => exact ⟨a0, b0, r0, 0, by omega, rfl, rfl, by go_simp, by go_simp, by go_simp, by go_simp, by omega, by go_grown⟩
  case round =>
    obtain ⟨a, b, r, i, hi, rfl, rfl, z0, z1, fz0, fz1, hr, hB⟩ := hrel
    by_cases hlt : i < 2
    · clear hr
      obtain ⟨t, s, K', ht, hs, t1, t2, hK', hs'⟩ := size13 r
      have s1 : 0 ≤ s ∧ s ≤ 12 := by omega
      clear hs'
      obtain ⟨a', ha'⟩ : ∃ a', a.tmod 1048576 = a' := ⟨_, rfl⟩
      obtain ⟨b', hb'⟩ : ∃ b', b.tmod 1048576 = b' := ⟨_, rfl⟩
      by_cases hv : (0 ≤ r ∧ r ≤ 12) ∧ In30 a ∧ In30 b
      · obtain ⟨⟨r1, r2⟩, ha, hb⟩ := hv
        have C1 := pcentre_yes a b r (12 - r).toNat (by omega) (by omega) ha hb
        have C2 := rcentre_yes a b r (12 - r).toNat (by omega) (by omega) ha hb
        have H1 := fun w hW => phex_yes a b r (12 - r).toNat (by omega) (by omega) ha hb w hW
        have H2 := fun w => rhex_yes a b r (12 - r).toNat (by omega) (by omega) ha hb w
        generalize poX (12 - r).toNat a b = p at C1 C2
        generalize poY (12 - r).toNat a b = q at C1 C2
        generalize hexG (12 - r).toNat a b = G at H1 H2
        clear ha hb r1 r2
        replace C1 : Hid _ := C1
        replace C2 : Hid _ := C2
        replace H1 : Hid _ := H1
        replace H2 : Hid _ := H2
        go_wp2_with fail
        refine (C1.out _).mono ?_
        rintro e v1 ⟨rfl, d1⟩
        have c1 : Below wr.heap.size wr v1 := Below.trans (by go_grown) (d1.mono (by simp; try omega))
        replace fz0 := keepFrozen c1 z0 fz0
        replace z0 := keepCell c1 z0
        replace fz1 := keepFrozen c1 z1 fz1
        replace z1 := keepCell c1 z1
        replace hB := belowT hB c1
        clear c1 d1
        go_wp2_with fail
        refine (C2.out _).mono ?_
        rintro e v2 ⟨rfl, d2⟩
        have c2 : Below v1.heap.size v1 v2 := Below.trans (by go_grown) (d2.mono (by simp; try omega))
        replace fz0 := keepFrozen c2 z0 fz0
        replace z0 := keepCell c2 z0
        replace fz1 := keepFrozen c2 z1 fz1
        replace z1 := keepCell c2 z1
        replace hB := belowT hB c2
        clear c2 d2
        go_wp2_with fail
        refine (H1.out _ ?_).mono ?_
        · exact hW0.out.below (belowT hB (by go_grown))
        rintro e v3 ⟨⟨Bk, hk, rfl, hR⟩, d3⟩
        have c3 : Below v2.heap.size v2 v3 := Below.trans (by go_grown) (d3.mono (by simp; try omega))
        replace fz0 := keepFrozen c3 z0 fz0
        replace z0 := keepCell c3 z0
        replace fz1 := keepFrozen c3 z1 fz1
        replace z1 := keepCell c3 z1
        replace hB := belowT hB c3
        clear c3 d3
        have hH : Hid (Hex12 Bk G v3) := hex_full hR
        clear hR hk
        go_wp2_with fail
        refine (H2.out _).mono ?_
        rintro e v4 ⟨⟨g, cap, rfl, hg⟩, d4⟩
        replace hH : Hid (Hex12 Bk G v4) := hH.out.keep d4
        have hg' : Hid (Hex12 g G v4) := hg
        replace fz0 := keepFrozen d4 z0 fz0
        replace fz1 := keepFrozen d4 z1 fz1
        replace z0 := keepCell d4 z0
        replace z1 := keepCell d4 z1
        replace hB := belowT hB d4
        clear d4 hg C1 C2 H1 H2
        go_wp2_with fail
        go_loopw [15] (fun v15 wx => ∃ k : Nat, k ≤ 6 ∧ v15 = .int .i64 (k : Int) ∧ Hid (Hex12 Bk G wx) ∧ Hid (Hex12 g G wx) ∧ wx.cell? ⟨w.heap.size, 0, none⟩ = some (.int .i64 a) ∧ wx.cell? ⟨w.heap.size, 1, none⟩ = some (.int .i64 b) ∧ wx.frozen? ⟨w.heap.size, 0, none⟩ = false ∧ wx.frozen? ⟨w.heap.size, 1, none⟩ = false ∧ Below w.heap.size w wx) (fun v15 _ => 6 - (intOf v15).toNat)
        case atStart => exact ⟨0, by omega, rfl, hH, hg', z0, z1, fz0, fz1, hB⟩
        case round =>
          clear hH hg' z0 z1 fz0 fz1 hB
          obtain ⟨k, hk, rfl, hH, hG, z0, z1, fz0, fz1, hB⟩ := hrel
          have ck : k = 0 ∨ k = 1 ∨ k = 2 ∨ k = 3 ∨ k = 4 ∨ k = 5 ∨ k = 6 := by omega
          rcases ck with rfl | rfl | rfl | rfl | rfl | rfl | rfl
          · have f0 := hH.out 0 (by omega)
            have f1 := hH.out 1 (by omega)
            have g0 := hG.out 0 (by omega)
            have g1 := hG.out 1 (by omega)
            have HE := eq_pair
            replace hH : Hid (Hex12 Bk G wr) := hH
            generalize G 0 = u at f0 g0
            generalize G 1 = u' at f1 g1
            go_wp2
            go_quiet (fail)
            go_wp2
            go_roundw
            case rel => exact ⟨1, by omega, by go_num, hH.out.drew _, hG.out.drew _, z0, z1, fz0, fz1, belowN hB _⟩
            case measure => simp [intOf]
          · have f0 := hH.out 2 (by omega)
            have f1 := hH.out 3 (by omega)
            have g0 := hG.out 2 (by omega)
            have g1 := hG.out 3 (by omega)
            have HE := eq_pair
            replace hH : Hid (Hex12 Bk G wr) := hH
            generalize G 2 = u at f0 g0
            generalize G 3 = u' at f1 g1
            go_wp2
            go_quiet (fail)
            go_wp2
            go_roundw
            case rel => exact ⟨2, by omega, by go_num, hH.out.drew _, hG.out.drew _, z0, z1, fz0, fz1, belowN hB _⟩
            case measure => simp [intOf]
          · have f0 := hH.out 4 (by omega)
            have f1 := hH.out 5 (by omega)
            have g0 := hG.out 4 (by omega)
            have g1 := hG.out 5 (by omega)
            have HE := eq_pair
            replace hH : Hid (Hex12 Bk G wr) := hH
            generalize G 4 = u at f0 g0
            generalize G 5 = u' at f1 g1
            go_wp2
            go_quiet (fail)
            go_wp2
            go_roundw
            case rel => exact ⟨3, by omega, by go_num, hH.out.drew _, hG.out.drew _, z0, z1, fz0, fz1, belowN hB _⟩
            case measure => simp [intOf]
          · have f0 := hH.out 6 (by omega)
            have f1 := hH.out 7 (by omega)
            have g0 := hG.out 6 (by omega)
            have g1 := hG.out 7 (by omega)
            have HE := eq_pair
            replace hH : Hid (Hex12 Bk G wr) := hH
            generalize G 6 = u at f0 g0
            generalize G 7 = u' at f1 g1
            go_wp2
            go_quiet (fail)
            go_wp2
            go_roundw
            case rel => exact ⟨4, by omega, by go_num, hH.out.drew _, hG.out.drew _, z0, z1, fz0, fz1, belowN hB _⟩
            case measure => simp [intOf]
          · have f0 := hH.out 8 (by omega)
            have f1 := hH.out 9 (by omega)
            have g0 := hG.out 8 (by omega)
            have g1 := hG.out 9 (by omega)
            have HE := eq_pair
            replace hH : Hid (Hex12 Bk G wr) := hH
            generalize G 8 = u at f0 g0
            generalize G 9 = u' at f1 g1
            go_wp2
            go_quiet (fail)
            go_wp2
            go_roundw
            case rel => exact ⟨5, by omega, by go_num, hH.out.drew _, hG.out.drew _, z0, z1, fz0, fz1, belowN hB _⟩
            case measure => simp [intOf]
          · have f0 := hH.out 10 (by omega)
            have f1 := hH.out 11 (by omega)
            have g0 := hG.out 10 (by omega)
            have g1 := hG.out 11 (by omega)
            have HE := eq_pair
            replace hH : Hid (Hex12 Bk G wr) := hH
            generalize G 10 = u at f0 g0
            generalize G 11 = u' at f1 g1
            go_wp2
            go_quiet (fail)
            go_wp2
            go_roundw
            case rel => exact ⟨6, by omega, by go_num, hH.out.drew _, hG.out.drew _, z0, z1, fz0, fz1, belowN hB _⟩
            case measure => simp [intOf]
          · obtain ⟨g0, g1⟩ := two_stores (u := .int .i64 a') (v := .int .i64 b') z0 z1
            go_wp2
            go_roundw
            case rel => exact ⟨a', b', s, i + 1, by omega, rfl, by go_num, g0, g1, by simp [fz0], by simp [fz1], fun _ => s1, (hB.setCell (by simp) _).setCell (by simp) _⟩
            case measure => simp [intOf]; omega
      · have C1 := pcentre_no a b r hv
        have C2 := rcentre_no a b r hv
        have H1 := phex_no a b r hv
        have H2 := rhex_no a b r hv
        clear hv
        replace C1 : Hid _ := C1
        replace C2 : Hid _ := C2
        replace H1 : Hid _ := H1
        replace H2 : Hid _ := H2
        go_wp2_with fail
        refine (C1.out _).mono ?_
        rintro e v1 ⟨rfl, d1⟩
        have c1 : Below wr.heap.size wr v1 := Below.trans (by go_grown) (d1.mono (by simp; try omega))
        replace fz0 := keepFrozen c1 z0 fz0
        replace z0 := keepCell c1 z0
        replace fz1 := keepFrozen c1 z1 fz1
        replace z1 := keepCell c1 z1
        replace hB := belowT hB c1
        clear c1 d1
        go_wp2_with fail
        refine (C2.out _).mono ?_
        rintro e v2 ⟨rfl, d2⟩
        have c2 : Below v1.heap.size v1 v2 := Below.trans (by go_grown) (d2.mono (by simp; try omega))
        replace fz0 := keepFrozen c2 z0 fz0
        replace z0 := keepCell c2 z0
        replace fz1 := keepFrozen c2 z1 fz1
        replace z1 := keepCell c2 z1
        replace hB := belowT hB c2
        clear c2 d2
        go_wp2_with fail
        refine (H1.out _).mono ?_
        rintro e v3 ⟨rfl, d3⟩
        have c3 : Below v2.heap.size v2 v3 := Below.trans (by go_grown) (d3.mono (by simp; try omega))
        replace fz0 := keepFrozen c3 z0 fz0
        replace z0 := keepCell c3 z0
        replace fz1 := keepFrozen c3 z1 fz1
        replace z1 := keepCell c3 z1
        replace hB := belowT hB c3
        clear c3 d3
        go_wp2_with fail
        refine (H2.out _).mono ?_
        rintro e v4 ⟨rfl, d4⟩
        have c4 : Below v3.heap.size v3 v4 := Below.trans (by go_grown) (d4.mono (by simp; try omega))
        replace fz0 := keepFrozen c4 z0 fz0
        replace z0 := keepCell c4 z0
        replace fz1 := keepFrozen c4 z1 fz1
        replace z1 := keepCell c4 z1
        replace hB := belowT hB c4
        clear c4 d4
        obtain ⟨g0, g1⟩ := two_stores (u := .int .i64 a') (v := .int .i64 b') z0 z1
        go_wp2_with fail
        go_loopw [15] (fun v15 wx => v15 = .int .i64 0 ∧ wx = v4) (fun _ _ => 0)
        case atStart => exact ⟨rfl, rfl⟩
        case round =>
          obtain ⟨rfl, rfl⟩ := hrel
          go_wp2
          go_roundw
          case rel => exact ⟨a', b', s, i + 1, by omega, rfl, by go_num, g0, g1, by simp [fz0], by simp [fz1], fun _ => s1, (hB.setCell (by simp) _).setCell (by simp) _⟩
          case measure => simp [intOf]; omega
    · obtain rfl : i = 2 := by omega
      obtain ⟨r1, r2⟩ := hr rfl
      have W1 := pwidth_yes r (12 - r).toNat (by omega) (by omega)
      have SV : ∀ w, Calls Tryd.prog 13 #[.int .i64 (12 - r)] w fun e w' => e = .returned (.int .i64 (sev (12 - r).toNat)) ∧ Below w.heap.size w w' := by
        have h := rseven_any (12 - r).toNat (by omega)
        have e : (((12 - r).toNat : Nat) : Int) = 12 - r := by omega
        rw [e] at h
        exact h
      obtain ⟨n1, n2⟩ := sev_box (K := (12 - r).toNat) (by omega)
      generalize sev (12 - r).toNat = S at W1 SV n1 n2
      clear hr hW0 hlt
      replace W1 : Hid _ := W1
      replace SV : Hid _ := SV
      go_wp2_with fail
      refine (W1.out _).mono ?_
      rintro e v1 ⟨rfl, d1⟩
      have c1 : Below wr.heap.size wr v1 := Below.trans (by go_grown) (d1.mono (by simp; try omega))
      replace hB := belowT hB c1
      clear c1 d1
      go_wp2_with fail
      refine (SV.out _).mono ?_
      rintro e v2 ⟨rfl, d2⟩
      have c2 : Below v1.heap.size v1 v2 := Below.trans (by go_grown) (d2.mono (by simp; try omega))
      replace hB := belowT hB c2
      clear c2 d2
      go_wp2_with fail
      refine (awake3 _).mono ?_
      rintro e v3 ⟨rfl, d3⟩
      have c3 : Below v2.heap.size v2 v3 := Below.trans (by go_grown) (d3.mono (by simp; try omega))
      replace hB := belowT hB c3
      clear c3 d3
      go_wp2
      go_ret
      exact ⟨rfl, hB⟩

end Go.Proofs.YtchcidhcefblpaaDoor
