/-
  What the document's own Cell, IsWord and WordUp of a word tell: the cell of a whole word, or none; the word above; for any word, in whatever memory.
-/
import Derived.Test.YtogkfmoediiieaaRWordC
import Derived.Test.YtogkfmoediiieaaProg
import Derived.Handy
import Derived.Deep.QuietTactic
import Derived.WalkSpells
import Derived.WalkLawsBesides
import Derived.BigQuiet
import Derived.PlainAid
import Derived.Deep.RegionWith
import Derived.Laws.BitsAllLaws
import Derived.Deep.RegionHeld3
import Derived.WalkSmall
import Derived.Deep.CutRange
import Derived.BigRegion
import Derived.OwnWalk
import Derived.Laws.OwnMore
import Derived.Deep.LoopGhost
import Derived.RangeFuncFrom
import Derived.RangeFuncCalls
import Derived.RangeFuncLeaves
import Derived.WalkKit
import Derived.OwnWalkIn
import Derived.TacticsInMore
import Derived.LoopNIn
import Derived.LoopIn
import Derived.RegionIn
import Derived.Stop.RegionWithIn
namespace Go.Proofs.Ytogkfmoediiieaa
open Go.RowKit

theorem ptZero : ptA 0 = 0 ∧ ptB 0 = 0 := ⟨rfl, rfl⟩

theorem part_unit {d : Int} (h0 : 0 < d) (h6 : d ≤ 6) : unitA (d - 1) = ptA d ∧ unitB (d - 1) = ptB d := by
  rcases (show d = 1 ∨ d = 2 ∨ d = 3 ∨ d = 4 ∨ d = 5 ∨ d = 6 by omega) with rfl | rfl | rfl | rfl | rfl | rfl <;> decide

/-- What tells a word's cell, or none. -/
def TellsWC (v : Int) (e : Ending) : Prop :=
  (Whole v ∧ e = .returned (.tuple #[.agg #[.int .i64 (wR v), .int .i64 (cellA v), .int .i64 (cellB v)], .int .i64 0])) ∨ (¬ Whole v ∧ e = .returned (.tuple #[.agg #[.int .i64 0, .int .i64 0, .int .i64 0], .int .i64 5]))

set_option maxHeartbeats 2000000 in
theorem rwcell_bad1 (v : Int) (hv : U64 v) (h : ¬ v / 1152921504606846976 = 1) (w : World) :
    Calls Try.prog 10 #[.int .u64 v] w fun e w' => TellsWC v e ∧ Below w.heap.size w w' := by
  have hn : ¬ Whole v := fun hw => h hw.1
  have hm : ((v / 1152921504606846976) != 1) = true := by simpa using h
  have e15 : bits .and .u64 (v / 72057594037927936) 15 = wR v := umask4 _ (u64_div hv (by omega))
  have hb := wR_box v
  have T : Hid (∀ e, e = .returned (.tuple #[.agg #[.int .i64 0, .int .i64 0, .int .i64 0], .int .i64 5]) → TellsWC v e) := fun e he => .inr ⟨hn, he⟩
  generalize wR v = R at *
  clear hn h
  go_enter Try.func10, Try.ntmps10
  go_wp2
  exact bodyPost_ret (v := .tuple #[.agg #[.int .i64 0, .int .i64 0, .int .i64 0], .int .i64 5]) (by simp [results, Try.results10, go_sem]) rfl ⟨T.out _ rfl, by go_grown⟩

set_option maxHeartbeats 2000000 in
theorem rwcell_bad2 (v : Int) (hv : U64 v) (h : v / 1152921504606846976 = 1) (h2 : 12 < wR v) (w : World) :
    Calls Try.prog 10 #[.int .u64 v] w fun e w' => TellsWC v e ∧ Below w.heap.size w w' := by
  have hn : ¬ Whole v := fun hw => by have := hw.2.1; omega
  have e15 : bits .and .u64 (v / 72057594037927936) 15 = wR v := umask4 _ (u64_div hv (by omega))
  have hb := wR_box v
  have T : Hid (∀ e, e = .returned (.tuple #[.agg #[.int .i64 0, .int .i64 0, .int .i64 0], .int .i64 5]) → TellsWC v e) := fun e he => .inr ⟨hn, he⟩
  generalize wR v = R at *
  clear hn
  go_enter Try.func10, Try.ntmps10
  go_wp2
  exact bodyPost_ret (v := .tuple #[.agg #[.int .i64 0, .int .i64 0, .int .i64 0], .int .i64 5]) (by simp [results, Try.results10, go_sem]) rfl ⟨T.out _ rfl, by go_grown⟩

set_option maxHeartbeats 16000000 in
set_option maxRecDepth 20000 in
theorem rwcell_core (v : Int) (hv : U64 v) (h : v / 1152921504606846976 = 1) (n : Nat) (hn : wR v = (n : Int)) (h12 : n ≤ 12) (w : World) :
    Calls Try.prog 10 #[.int .u64 v] w fun e w' => TellsWC v e ∧ Below w.heap.size w w' := by
  have e15 : bits .and .u64 (v / 72057594037927936) 15 = (n : Int) := by rw [umask4 _ (u64_div hv (by omega))]; exact hn
  have hAB := wAB_box v
  have e46 : bits .and .u64 (v / 70368744177664) 1023 = wA v + 512 := by rw [umask10 _ (u64_div hv (by omega))]; unfold wA; omega
  have e36 : bits .and .u64 (v / 68719476736) 1023 = wB v + 512 := by rw [umask10 _ (u64_div hv (by omega))]; unfold wB; omega
  have DG : Hid (∀ k : Nat, 1 ≤ k → k ≤ 12 → ∃ D p x : Int, 36 - 3 * (k : Int) = D ∧ 0 ≤ D ∧ D ≤ 36 ∧ (2 : Int) ^ D.toNat = p ∧ v / p = x ∧ bits .and .u64 x 7 = dg v k) := by
    intro k k1 k2
    have hpp := pow8_box k1 k2
    refine ⟨36 - 3 * (k : Int), 8 ^ (12 - k), _, rfl, by omega, by omega, ?_, rfl, ?_⟩
    · rw [show (36 - 3 * (k : Int)).toNat = 3 * (12 - k) by omega, Int.pow_mul]; rfl
    · rw [umask3 _ (u64_div hv (by omega))]; rfl
  have hdb : Hid (∀ k, 0 ≤ dg v k ∧ dg v k ≤ 7) := dg_box v
  have hYes : Hid ((∀ j : Nat, 1 ≤ j → j ≤ 12 → (dg v j = 7 ↔ (n : Int) < (j : Int))) → ∀ e, e = .returned (.tuple #[.agg #[.int .i64 (n : Int), .int .i64 (down (dg v) n (wA v) (wB v)).1, .int .i64 (down (dg v) n (wA v) (wB v)).2], .int .i64 0]) → TellsWC v e) := by
    intro hf e he
    refine .inl ⟨⟨h, by omega, fun j j1 j2 => by rw [hn]; exact hf j j1 j2⟩, ?_⟩
    rw [he, hn]
    unfold cellA cellB
    rw [hn]
    rfl
  have hNo : Hid (∀ j : Nat, 1 ≤ j → j ≤ 12 → ¬ (dg v j = 7 ↔ (n : Int) < (j : Int)) → ∀ e, e = .returned (.tuple #[.agg #[.int .i64 0, .int .i64 0, .int .i64 0], .int .i64 5]) → TellsWC v e) :=
    fun j j1 j2 hf e he => .inr ⟨fun hw => hf (by have := hw.2.2 j j1 j2; rwa [hn] at this), he⟩
  have MU : Hid (∀ P Q : Int, (-400000000 ≤ P ∧ P ≤ 400000000) → (-400000000 ≤ Q ∧ Q ≤ 400000000) → ∀ w, Calls Try.prog 28 #[.agg #[.int .i64 P, .int .i64 Q], .agg #[.int .i64 2, .int .i64 1]] w fun e w' => e = .returned (.tuple #[.agg #[.int .i64 (2 * P - Q), .int .i64 (P + 3 * Q)], .bool true]) ∧ Below w.heap.size w w') := by
    intro P Q hP hQ w
    have e1 : mulA P Q 2 1 = 2 * P - Q := by unfold mulA; omega
    have e2 : mulB P Q 2 1 = P + 3 * Q := by unfold mulB; omega
    have := refmul_yes P Q 2 1 (by omega) (by omega) (by omega) (by omega) (by omega) (by omega) (by omega) (by omega) (by rw [e1]; exact fits_mk (by omega)) (by rw [e2]; exact fits_mk (by omega)) w
    rwa [e1, e2] at this
  have UN : Hid (∀ d : Int, 0 < d → d ≤ 6 → ∀ w, Calls Try.prog 29 #[.int .i64 (d - 1)] w fun e w' => e = .returned (.agg #[.int .i64 (ptA d), .int .i64 (ptB d)]) ∧ Below w.heap.size w w') := by
    intro d d0 d6 w
    have := refunit_any (d - 1) w
    rw [show (d - 1) % 6 = d - 1 by omega] at this
    rwa [(part_unit d0 d6).1, (part_unit d0 d6).2] at this
  have hO0 : Hid (Ok4 ((0 : Nat) : Int) (wA v) (wB v)) := ok4_of_base (r := 0) (by omega) hAB.1 hAB.2
  obtain ⟨⟨a1, a2⟩, b1, b2⟩ := hAB
  generalize wA v = A at *
  generalize wB v = B at *
  generalize dg v = d at *
  have eA : A + 512 - 512 = A := by omega
  have eB : B + 512 - 512 = B := by omega
  have hnb : (n : Int) ≤ 12 := by omega
  have hm : v / 1152921504606846976 = 1 := h
  clear hn h hv
  go_enter Try.func10, Try.ntmps10
  go_wp2_with fail
  go_loopw [6] (fun v6 wr => ∃ (j : Nat) (P Q : Int), 1 ≤ j ∧ j ≤ 13 ∧ v6 = .int .i64 (j : Int) ∧ Hid (∀ i : Nat, 1 ≤ i → i < j → (d i = 7 ↔ (n : Int) < (i : Int))) ∧ Hid (Ok4 ((min (j - 1) n : Nat) : Int) P Q) ∧ Hid ((P, Q) = down d (min (j - 1) n) A B)
    ∧ wr.cell? ⟨w.heap.size + 1, 0, none⟩ = some (.int .i64 P) ∧ wr.cell? ⟨w.heap.size + 1, 1, none⟩ = some (.int .i64 Q) ∧ wr.frozen? ⟨w.heap.size + 1, 0, none⟩ = false ∧ wr.frozen? ⟨w.heap.size + 1, 1, none⟩ = false
    ∧ wr.cell? ⟨w.heap.size, 0, none⟩ = some (.int .i64 0) ∧ wr.cell? ⟨w.heap.size, 1, none⟩ = some (.int .i64 0) ∧ wr.cell? ⟨w.heap.size, 2, none⟩ = some (.int .i64 0) ∧ wr.frozen? ⟨w.heap.size, 0, none⟩ = false ∧ wr.frozen? ⟨w.heap.size, 1, none⟩ = false ∧ wr.frozen? ⟨w.heap.size, 2, none⟩ = false ∧ Below w.heap.size w wr) (fun v6 _ => 13 - (intOf v6).toNat)
  case atStart => exact ⟨1, A, B, by omega, by omega, rfl, fun i i1 i2 => by omega, by rw [show min (1 - 1) n = 0 by omega]; exact hO0, by show _ = _; rw [show min (1 - 1) n = 0 by omega]; rfl, by go_simp, by go_simp, by go_simp, by go_simp, by go_simp, by go_simp, by go_simp, by go_simp, by go_simp, by go_simp, by go_grown⟩
  case round =>
    clear hO0
    obtain ⟨j, P, Q, j1, j13, rfl, hf, hO, hPQ, z0, z1, fz0, fz1, r0, r1, r2, fr0, fr1, fr2, hB⟩ := hrel
    have lz : w.heap.size + 1 < wr.heap.size := World.block_lt_of_cell? _ _ z0
    have lz0 : w.heap.size < wr.heap.size := by omega
    by_cases hlt : j ≤ 12
    · obtain ⟨D, p, X, eD, D0, D36, ep, ex, ed⟩ := DG.out j j1 hlt
      have hdj := hdb.out j
      have D0' : ¬ D < 0 := by omega
      have ep' : (2 : Int) ^ min D.toNat 64 = p := by rw [show min D.toNat 64 = D.toNat by omega]; exact ep
      have jb : (j : Int) ≤ 12 := by omega
      have hNj := hNo.out j j1 hlt
      by_cases hjn : n < j
      · have hj1 : (n : Int) < (j : Int) := by omega
        by_cases h7 : d j = 7
        · have hfn : Hid (∀ i : Nat, 1 ≤ i → i < j + 1 → (d i = 7 ↔ (n : Int) < (i : Int))) := by
            intro i i1 i2
            by_cases hij : i = j
            · subst hij; exact ⟨fun _ => hj1, fun _ => h7⟩
            · exact hf.out i i1 (by omega)
          rw [h7] at ed hdj
          clear DG hdb hYes hNo hNj hf MU UN h7
          go_wp2
          go_roundw
          case rel => exact ⟨j + 1, P, Q, by omega, by omega, by go_num, hfn, by rw [show min (j + 1 - 1) n = min (j - 1) n by omega]; exact hO, by rw [show min (j + 1 - 1) n = min (j - 1) n by omega]; exact hPQ, z0, z1, fz0, fz1, r0, r1, r2, fr0, fr1, fr2, hB⟩
          case measure => simp [intOf]; omega
        · have hT := hNj (fun hh => h7 (hh.2 hj1))
          have h7' : (d j != 7) = true := by simpa using h7
          replace hT : Hid _ := hT
          generalize d j = dj at *
          clear DG hdb hYes hNo hNj hf MU UN h7 hPQ hO
          obtain ⟨g0, g1, g2⟩ := three_stores (u0 := .int .i64 0) (u1 := .int .i64 0) (u2 := .int .i64 0) r0 r1 r2
          go_wp2
          exact bodyPost_ret (v := .tuple #[.agg #[.int .i64 0, .int .i64 0, .int .i64 0], .int .i64 5]) (by simp [results, Try.results10, go_sem, g0, g1, g2]) rfl ⟨hT.out _ rfl, ((hB.setCell (by simp) _).setCell (by simp) _).setCell (by simp) _⟩
      · have hj1 : decide ((n : Int) < (j : Int)) = false := df (by omega)
        have hj2 : (j : Int) ≤ (n : Int) := by omega
        by_cases h7 : d j = 7
        · have hT := hNj (fun hh => by have := hh.1 h7; omega)
          replace hT : Hid _ := hT
          rw [h7] at ed hdj
          clear DG hdb hYes hNo hNj hf MU UN h7 hPQ hO
          obtain ⟨g0, g1, g2⟩ := three_stores (u0 := .int .i64 0) (u1 := .int .i64 0) (u2 := .int .i64 0) r0 r1 r2
          go_wp2
          exact bodyPost_ret (v := .tuple #[.agg #[.int .i64 0, .int .i64 0, .int .i64 0], .int .i64 5]) (by simp [results, Try.results10, go_sem, g0, g1, g2]) rfl ⟨hT.out _ rfl, ((hB.setCell (by simp) _).setCell (by simp) _).setCell (by simp) _⟩
        · have hdc : 0 ≤ d j ∧ d j ≤ 6 := by omega
          have hfn : Hid (∀ i : Nat, 1 ≤ i → i < j + 1 → (d i = 7 ↔ (n : Int) < (i : Int))) := by
            intro i i1 i2
            by_cases hij : i = j
            · subst hij; exact ⟨fun hh => absurd hh h7, fun hh => by omega⟩
            · exact hf.out i i1 (by omega)
          have emin : min (j + 1 - 1) n = min (j - 1) n + 1 := by omega
          have emin2 : min (j - 1) n + 1 = j := by omega
          have hOk := hO.out
          have hp := ok4_part hOk
          have hOn : Hid (Ok4 ((min (j + 1 - 1) n : Nat) : Int) (chA (d j) P Q) (chB (d j) P Q)) := by
            have := ok4_child hOk (by omega) hdc.1 hdc.2
            rwa [show ((min (j - 1) n : Nat) : Int) + 1 = ((min (j + 1 - 1) n : Nat) : Int) by omega] at this
          have hPn : Hid ((chA (d j) P Q, chB (d j) P Q) = down d (min (j + 1 - 1) n) A B) := by
            show _ = _
            rw [emin, down_step, emin2, ← hPQ.out]
          have M1 : Hid _ := MU.out P Q hp.1 hp.2
          have h7' : (d j == 7) = false := by simpa using h7
          obtain ⟨p1, p2⟩ := hp
          clear DG hdb hYes hNo hNj hf MU hPQ hO hOk emin emin2
          by_cases hz : d j = 0
          · have hzA : chA (d j) P Q = 2 * P - Q := by rw [hz]; show 2 * P - Q + 0 = _; omega
            have hzB : chB (d j) P Q = P + 3 * Q := by rw [hz]; show P + 3 * Q + 0 = _; omega
            rw [hzA, hzB] at hOn hPn
            have hz' : decide (0 < d j) = false := df (by omega)
            clear hz hzA hzB UN h7
            generalize d j = dj at *
            have qz0 := World.block_lt_of_cell? _ _ z0
            have qr0 := World.block_lt_of_cell? _ _ r0
            go_wp2_with fail
            refine (M1.out _).mono ?_
            rintro e v1 ⟨rfl, d1⟩
            have c1 : Below wr.heap.size wr v1 := Below.trans (by go_grown) (d1.mono (by simp; try omega))
            replace fz0 := keepFrozen c1 z0 fz0
            replace z0 := keepCell c1 z0
            replace qz0 := World.block_lt_of_cell? _ _ z0
            replace fz1 := keepFrozen c1 z1 fz1
            replace z1 := keepCell c1 z1
            replace fr0 := keepFrozen c1 r0 fr0
            replace r0 := keepCell c1 r0
            replace qr0 := World.block_lt_of_cell? _ _ r0
            replace fr1 := keepFrozen c1 r1 fr1
            replace r1 := keepCell c1 r1
            replace fr2 := keepFrozen c1 r2 fr2
            replace r2 := keepCell c1 r2
            replace hB := belowT hB c1
            clear c1 d1
            obtain ⟨g0, g1⟩ := two_stores (u := .int .i64 (2 * P - Q)) (v := .int .i64 (P + 3 * Q)) z0 z1
            go_wp2
            go_roundw
            case rel => exact ⟨j + 1, _, _, by omega, by omega, by go_num, hfn, hOn, hPn, g0, g1, by simp [fz0], by simp [fz1], store_keep (store_keep r0 (by simp)) (by simp), store_keep (store_keep r1 (by simp)) (by simp), store_keep (store_keep r2 (by simp)) (by simp), by simp [fr0], by simp [fr1], by simp [fr2], (hB.setCell (by simp) _).setCell (by simp) _⟩
            case measure => simp [intOf]; omega
          · have hz' : decide (0 < d j) = true := decide_eq_true (by omega)
            have U1 : Hid _ := UN.out (d j) (by omega) hdc.2
            have hcA : 2 * P - Q + ptA (d j) = chA (d j) P Q := rfl
            have hcB : P + 3 * Q + ptB (d j) = chB (d j) P Q := rfl
            have hpt := pt_box (d j)
            generalize chA (d j) P Q = CA at *
            generalize chB (d j) P Q = CB at *
            generalize ptA (d j) = xA at *
            generalize ptB (d j) = xB at *
            generalize d j = dj at *
            clear UN hz h7
            have qz0 := World.block_lt_of_cell? _ _ z0
            have qr0 := World.block_lt_of_cell? _ _ r0
            go_wp2_with fail
            refine (M1.out _).mono ?_
            rintro e v1 ⟨rfl, d1⟩
            have c1 : Below wr.heap.size wr v1 := Below.trans (by go_grown) (d1.mono (by simp; try omega))
            replace fz0 := keepFrozen c1 z0 fz0
            replace z0 := keepCell c1 z0
            replace qz0 := World.block_lt_of_cell? _ _ z0
            replace fz1 := keepFrozen c1 z1 fz1
            replace z1 := keepCell c1 z1
            replace fr0 := keepFrozen c1 r0 fr0
            replace r0 := keepCell c1 r0
            replace qr0 := World.block_lt_of_cell? _ _ r0
            replace fr1 := keepFrozen c1 r1 fr1
            replace r1 := keepCell c1 r1
            replace fr2 := keepFrozen c1 r2 fr2
            replace r2 := keepCell c1 r2
            replace hB := belowT hB c1
            clear c1 d1
            obtain ⟨g0, g1⟩ := two_stores (u := .int .i64 (2 * P - Q)) (v := .int .i64 (P + 3 * Q)) z0 z1
            have hbw : Below w.heap.size w ((v1.setCell ⟨w.heap.size + 1, 0, none⟩ (.int .i64 (2 * P - Q))).setCell ⟨w.heap.size + 1, 1, none⟩ (.int .i64 (P + 3 * Q))) := (hB.setCell (by simp) _).setCell (by simp) _
            have x0 : ((v1.setCell ⟨w.heap.size + 1, 0, none⟩ (.int .i64 (2 * P - Q))).setCell ⟨w.heap.size + 1, 1, none⟩ (.int .i64 (P + 3 * Q))).cell? ⟨w.heap.size, 0, none⟩ = some (.int .i64 0) := store_keep (store_keep r0 (by simp)) (by simp)
            have x1 : ((v1.setCell ⟨w.heap.size + 1, 0, none⟩ (.int .i64 (2 * P - Q))).setCell ⟨w.heap.size + 1, 1, none⟩ (.int .i64 (P + 3 * Q))).cell? ⟨w.heap.size, 1, none⟩ = some (.int .i64 0) := store_keep (store_keep r1 (by simp)) (by simp)
            have x2 : ((v1.setCell ⟨w.heap.size + 1, 0, none⟩ (.int .i64 (2 * P - Q))).setCell ⟨w.heap.size + 1, 1, none⟩ (.int .i64 (P + 3 * Q))).cell? ⟨w.heap.size, 2, none⟩ = some (.int .i64 0) := store_keep (store_keep r2 (by simp)) (by simp)
            have y0 : ((v1.setCell ⟨w.heap.size + 1, 0, none⟩ (.int .i64 (2 * P - Q))).setCell ⟨w.heap.size + 1, 1, none⟩ (.int .i64 (P + 3 * Q))).frozen? ⟨w.heap.size + 1, 0, none⟩ = false := by simp [fz0]
            have y1 : ((v1.setCell ⟨w.heap.size + 1, 0, none⟩ (.int .i64 (2 * P - Q))).setCell ⟨w.heap.size + 1, 1, none⟩ (.int .i64 (P + 3 * Q))).frozen? ⟨w.heap.size + 1, 1, none⟩ = false := by simp [fz1]
            have s0 : ((v1.setCell ⟨w.heap.size + 1, 0, none⟩ (.int .i64 (2 * P - Q))).setCell ⟨w.heap.size + 1, 1, none⟩ (.int .i64 (P + 3 * Q))).frozen? ⟨w.heap.size, 0, none⟩ = false := by simp [fr0]
            have s1 : ((v1.setCell ⟨w.heap.size + 1, 0, none⟩ (.int .i64 (2 * P - Q))).setCell ⟨w.heap.size + 1, 1, none⟩ (.int .i64 (P + 3 * Q))).frozen? ⟨w.heap.size, 1, none⟩ = false := by simp [fr1]
            have s2 : ((v1.setCell ⟨w.heap.size + 1, 0, none⟩ (.int .i64 (2 * P - Q))).setCell ⟨w.heap.size + 1, 1, none⟩ (.int .i64 (P + 3 * Q))).frozen? ⟨w.heap.size, 2, none⟩ = false := by simp [fr2]
            go_wp2_with fail
            refine (U1.out _).mono ?_
            rintro e v2 ⟨rfl, hb2⟩
            replace y0 := keepFrozen hb2 g0 y0
            replace y1 := keepFrozen hb2 g1 y1
            replace s0 := keepFrozen hb2 x0 s0
            replace s1 := keepFrozen hb2 x1 s1
            replace s2 := keepFrozen hb2 x2 s2
            replace g0 := keepCell hb2 g0
            replace g1 := keepCell hb2 g1
            replace x0 := keepCell hb2 x0
            replace x1 := keepCell hb2 x1
            replace x2 := keepCell hb2 x2
            replace hbw := belowT hbw hb2
            clear r0 r1 r2 fr0 fr1 fr2 z0 z1 fz0 fz1 hB hb2 qz0 qr0 lz lz0
            have lz := World.block_lt_of_cell? _ _ g0
            have n1 := Nat.ne_of_lt lz
            have n2 := Nat.ne_of_gt lz
            obtain ⟨k0, k1⟩ := two_stores (u := .int .i64 CA) (v := .int .i64 CB) g0 g1
            have hal := allocB ((v2.setCell ⟨w.heap.size + 1, 0, none⟩ (.int .i64 CA)).setCell ⟨w.heap.size + 1, 1, none⟩ (.int .i64 CB)) (.cells #[.int .i64 xA, .int .i64 xB] 27)
            have m0 : ((v2.setCell ⟨w.heap.size + 1, 0, none⟩ (.int .i64 CA)).setCell ⟨w.heap.size + 1, 1, none⟩ (.int .i64 CB)).frozen? ⟨w.heap.size + 1, 0, none⟩ = false := by simp [y0]
            have m1 : ((v2.setCell ⟨w.heap.size + 1, 0, none⟩ (.int .i64 CA)).setCell ⟨w.heap.size + 1, 1, none⟩ (.int .i64 CB)).frozen? ⟨w.heap.size + 1, 1, none⟩ = false := by simp [y1]
            have o0 : ((v2.setCell ⟨w.heap.size + 1, 0, none⟩ (.int .i64 CA)).setCell ⟨w.heap.size + 1, 1, none⟩ (.int .i64 CB)).cell? ⟨w.heap.size, 0, none⟩ = some (.int .i64 0) := store_keep (store_keep x0 (by simp)) (by simp)
            have o1 : ((v2.setCell ⟨w.heap.size + 1, 0, none⟩ (.int .i64 CA)).setCell ⟨w.heap.size + 1, 1, none⟩ (.int .i64 CB)).cell? ⟨w.heap.size, 1, none⟩ = some (.int .i64 0) := store_keep (store_keep x1 (by simp)) (by simp)
            have o2 : ((v2.setCell ⟨w.heap.size + 1, 0, none⟩ (.int .i64 CA)).setCell ⟨w.heap.size + 1, 1, none⟩ (.int .i64 CB)).cell? ⟨w.heap.size, 2, none⟩ = some (.int .i64 0) := store_keep (store_keep x2 (by simp)) (by simp)
            have q0 : ((v2.setCell ⟨w.heap.size + 1, 0, none⟩ (.int .i64 CA)).setCell ⟨w.heap.size + 1, 1, none⟩ (.int .i64 CB)).frozen? ⟨w.heap.size, 0, none⟩ = false := by simp [s0]
            have q1 : ((v2.setCell ⟨w.heap.size + 1, 0, none⟩ (.int .i64 CA)).setCell ⟨w.heap.size + 1, 1, none⟩ (.int .i64 CB)).frozen? ⟨w.heap.size, 1, none⟩ = false := by simp [s1]
            have q2 : ((v2.setCell ⟨w.heap.size + 1, 0, none⟩ (.int .i64 CA)).setCell ⟨w.heap.size + 1, 1, none⟩ (.int .i64 CB)).frozen? ⟨w.heap.size, 2, none⟩ = false := by simp [s2]
            have hbe : Below w.heap.size w ((v2.setCell ⟨w.heap.size + 1, 0, none⟩ (.int .i64 CA)).setCell ⟨w.heap.size + 1, 1, none⟩ (.int .i64 CB)) := (hbw.setCell (by simp) _).setCell (by simp) _
            go_wp2
            go_roundw
            case rel => exact ⟨j + 1, CA, CB, by omega, by omega, by go_num, hfn, hOn, hPn, keepCell hal k0, keepCell hal k1, keepFrozen hal k0 m0, keepFrozen hal k1 m1, keepCell hal o0, keepCell hal o1, keepCell hal o2, keepFrozen hal o0 q0, keepFrozen hal o1 q1, keepFrozen hal o2 q2, belowT hbe hal⟩
            case measure => simp [intOf]; omega
    · obtain rfl : j = 13 := by omega
      have hmin : min (13 - 1) n = n := by omega
      have hT := hYes.out (fun i i1 i2 => hf.out i i1 (by omega))
      have hPQ' := hPQ.out
      rw [hmin] at hPQ'
      rw [← hPQ'] at hT
      replace hT : Hid _ := hT
      clear DG hdb hYes hNo hf MU UN hPQ hPQ' hO hmin
      obtain ⟨g0, g1, g2⟩ := three_stores (u0 := .int .i64 (n : Int)) (u1 := .int .i64 P) (u2 := .int .i64 Q) r0 r1 r2
      go_wp2
      exact bodyPost_ret (v := .tuple #[.agg #[.int .i64 (n : Int), .int .i64 P, .int .i64 Q], .int .i64 0]) (by simp [results, Try.results10, go_sem, g0, g1, g2]) rfl ⟨hT.out _ rfl, ((hB.setCell (by simp) _).setCell (by simp) _).setCell (by simp) _⟩

/-- CELL, as the document's own answer has it. -/
theorem rwcell_any (v : Int) (hv : U64 v) (w : World) :
    Calls Try.prog 10 #[.int .u64 v] w fun e w' => TellsWC v e ∧ Below w.heap.size w w' := by
  by_cases h : v / 1152921504606846976 = 1
  · obtain ⟨n, hn⟩ := Int.eq_ofNat_of_zero_le (wR_box v).1
    by_cases h2 : n ≤ 12
    · exact rwcell_core v hv h n hn h2 w
    · exact rwcell_bad2 v hv h (by omega) w
  · exact rwcell_bad1 v hv h w

theorem rwcell_yes (v : Int) (h : Whole v) (w : World) :
    Calls Try.prog 10 #[.int .u64 v] w fun e w' => e = .returned (.tuple #[.agg #[.int .i64 (wR v), .int .i64 (cellA v), .int .i64 (cellB v)], .int .i64 0]) ∧ Below w.heap.size w w' := by
  have hb := whole_box h
  exact (rwcell_any v ⟨by omega, by omega⟩ w).mono fun _ _ ⟨he, hb⟩ => ⟨he.elim (fun x => x.2) (fun x => absurd h x.1), hb⟩

theorem rwcell_no (v : Int) (hv : U64 v) (h : ¬ Whole v) (w : World) :
    Calls Try.prog 10 #[.int .u64 v] w fun e w' => e = .returned (.tuple #[.agg #[.int .i64 0, .int .i64 0, .int .i64 0], .int .i64 5]) ∧ Below w.heap.size w w' :=
  (rwcell_any v hv w).mono fun _ _ ⟨he, hb⟩ => ⟨he.elim (fun x => absurd x.1 h) (fun x => x.2), hb⟩

set_option maxHeartbeats 1000000 in
theorem risword_yes (v : Int) (h : Whole v) (w : World) :
    Calls Try.prog 26 #[.int .u64 v] w fun e w' => e = .returned (.bool true) ∧ Below w.heap.size w w' := by
  have CE : Hid _ := rwcell_yes v h
  clear h
  go_enter Try.func26, Try.ntmps26
  go_wp2_with fail
  refine (CE.out _).mono ?_
  rintro e w1 ⟨rfl, d1⟩
  have c1 : Below w.heap.size w w1 := Below.trans (by go_grown) (d1.mono (by simp; try omega))
  have hB := c1
  clear c1 d1
  go_wp2
  go_ret
  exact ⟨rfl, belowT hB (allocB _ _)⟩

set_option maxHeartbeats 1000000 in
theorem risword_no (v : Int) (hv : U64 v) (h : ¬ Whole v) (w : World) :
    Calls Try.prog 26 #[.int .u64 v] w fun e w' => e = .returned (.bool false) ∧ Below w.heap.size w w' := by
  have CE : Hid _ := rwcell_no v hv h
  clear h hv
  go_enter Try.func26, Try.ntmps26
  go_wp2_with fail
  refine (CE.out _).mono ?_
  rintro e w1 ⟨rfl, d1⟩
  have c1 : Below w.heap.size w w1 := Below.trans (by go_grown) (d1.mono (by simp; try omega))
  have hB := c1
  clear c1 d1
  go_wp2
  go_ret
  exact ⟨rfl, belowT hB (allocB _ _)⟩

set_option maxHeartbeats 1000000 in
theorem rup_no (v : Int) (hv : U64 v) (h : ¬ Whole v) (w : World) :
    Calls Try.prog 16 #[.int .u64 v] w fun e w' => e = .returned (.tuple #[.int .u64 0, .int .i64 5]) ∧ Below w.heap.size w w' := by
  have CE : Hid _ := rwcell_no v hv h
  clear h hv
  go_enter Try.func16, Try.ntmps16
  go_wp2_with fail
  refine (CE.out _).mono ?_
  rintro e w1 ⟨rfl, d1⟩
  have c1 : Below w.heap.size w w1 := Below.trans (by go_grown) (d1.mono (by simp; try omega))
  have hB := c1
  clear c1 d1
  go_wp2
  go_ret2
  exact ⟨rfl, by first | exact hB | exact belowT hB (allocB _ _) | exact belowT hB (by go_grown)⟩

set_option maxHeartbeats 1000000 in
theorem rup_top (v : Int) (h : Whole v) (h0 : wR v = 0) (w : World) :
    Calls Try.prog 16 #[.int .u64 v] w fun e w' => e = .returned (.tuple #[.int .u64 0, .int .i64 3]) ∧ Below w.heap.size w w' := by
  have CE : Hid (∀ w, Calls Try.prog 10 #[.int .u64 v] w fun e w' => e = .returned (.tuple #[.agg #[.int .i64 0, .int .i64 (cellA v), .int .i64 (cellB v)], .int .i64 0]) ∧ Below w.heap.size w w') := fun w => by
    have := rwcell_yes v h w
    rwa [h0] at this
  have ho := cell_ok h
  rw [h0] at ho
  have PE : Hid _ := rparent4_top 0 (cellA v) (cellB v) ho rfl
  generalize cellA v = A at *
  generalize cellB v = B at *
  clear h h0 ho
  go_enter Try.func16, Try.ntmps16
  go_wp2_with fail
  refine (CE.out _).mono ?_
  rintro e w1 ⟨rfl, d1⟩
  have c1 : Below w.heap.size w w1 := Below.trans (by go_grown) (d1.mono (by simp; try omega))
  have hB := c1
  clear c1 d1
  go_wp2_with fail
  refine (PE.out _).mono ?_
  rintro e w2 ⟨rfl, d2⟩
  have c2 : Below w1.heap.size w1 w2 := Below.trans (by go_grown) (d2.mono (by simp; try omega))
  replace hB := belowT hB c2
  clear c2 d2
  go_wp2
  go_ret2
  exact ⟨rfl, by first | exact hB | exact belowT hB (allocB _ _) | exact belowT hB (by go_grown)⟩

set_option maxHeartbeats 1000000 in
theorem rup_yes2 (v : Int) (h : Whole v) (h0 : 0 < wR v) (w : World) :
    Calls Try.prog 16 #[.int .u64 v] w fun e w' => e = .returned (.tuple #[.int .u64 (upW v), .int .i64 0]) ∧ Below w.heap.size w w' := by
  have ho := cell_ok h
  obtain ⟨n, hn⟩ := Int.eq_ofNat_of_zero_le (wR_box v).1
  have CE : Hid (∀ w, Calls Try.prog 10 #[.int .u64 v] w fun e w' => e = .returned (.tuple #[.agg #[.int .i64 (n : Int), .int .i64 (cellA v), .int .i64 (cellB v)], .int .i64 0]) ∧ Below w.heap.size w w') := fun w => by
    have := rwcell_yes v h w
    rwa [hn] at this
  rw [hn] at ho h0
  have hp := ok4_parent ho h0
  have PE : Hid (∀ w, Calls Try.prog 37 #[.agg #[.int .i64 (n : Int), .int .i64 (cellA v), .int .i64 (cellB v)]] w fun e w' => e = .returned (.tuple #[.agg #[.int .i64 ((n - 1 : Nat) : Int), .int .i64 (parA (cellA v) (cellB v)), .int .i64 (parB (cellA v) (cellB v))], .int .i64 0]) ∧ Below w.heap.size w w') := fun w => by
    have := rparent4_yes (n : Int) (cellA v) (cellB v) ho h0 w
    rwa [show (n : Int) - 1 = ((n - 1 : Nat) : Int) by omega] at this
  rw [show (n : Int) - 1 = ((n - 1 : Nat) : Int) by omega] at hp
  have WE : Hid (∀ w, Calls Try.prog 12 #[.agg #[.int .i64 ((n - 1 : Nat) : Int), .int .i64 (parA (cellA v) (cellB v)), .int .i64 (parB (cellA v) (cellB v))]] w fun e w' => e = .returned (.tuple #[.int .u64 (upW v), .int .i64 0]) ∧ Below w.heap.size w w') := fun w => by
    have := rword_yes (n - 1) _ _ hp w
    rw [← raised_word ho (by omega)] at this
    have hwc := word_cell h
    rw [hn, Int.toNat_natCast] at hwc
    rwa [hwc] at this
  clear hp ho
  generalize cellA v = A at *
  generalize cellB v = B at *
  generalize parA A B = C at *
  generalize parB A B = D at *
  generalize upW v = U at *
  generalize ((n - 1 : Nat) : Int) = m at *
  clear h h0 hn
  go_enter Try.func16, Try.ntmps16
  go_wp2_with fail
  refine (CE.out _).mono ?_
  rintro e w1 ⟨rfl, d1⟩
  have c1 : Below w.heap.size w w1 := Below.trans (by go_grown) (d1.mono (by simp; try omega))
  have hB := c1
  clear c1 d1
  go_wp2_with fail
  refine (PE.out _).mono ?_
  rintro e w2 ⟨rfl, d2⟩
  have c2 : Below w1.heap.size w1 w2 := Below.trans (by go_grown) (d2.mono (by simp; try omega))
  replace hB := belowT hB c2
  clear c2 d2
  go_wp2_with fail
  refine (WE.out _).mono ?_
  rintro e w3 ⟨rfl, d3⟩
  have c3 : Below w2.heap.size w2 w3 := Below.trans (by go_grown) (d3.mono (by simp; try omega))
  replace hB := belowT hB c3
  clear c3 d3
  go_wp2
  go_ret2
  exact ⟨rfl, by first | exact hB | exact belowT hB (allocB _ _) | exact belowT hB (by go_grown)⟩

end Go.Proofs.Ytogkfmoediiieaa
