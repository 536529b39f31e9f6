/-
  What package cell's Children tells: the seven cells below one, in new memory; for any cell, in whatever memory where both tables hold what their texts lay.
-/
import Derived.Test.YtlipbdiijjfheaaGreatDoorCCell
import Derived.Test.YtlipbdiijjfheaaGreatDoorCChild
namespace Go.Proofs.YtlipbdiijjfheaaGreatDoor
open Go.RowKit

/-- The o-th of the 21 numbers of a cell's children. -/
def kidG (r a b : Int) (o : Nat) : Int := if o % 3 = 0 then r + 1 else if o % 3 = 1 then chA ((o / 3 : Nat) : Int) a b else chB ((o / 3 : Nat) : Int) a b
/-- The first k children are told; the others are nought. -/
def kidAt (G : Nat → Int) (k o : Nat) : Int := if o < k * 3 then G o else 0
/-- 21 cells of which the first k children are told. -/
def KidRel (B : Nat) (G : Nat → Int) (k : Nat) (w : World) : Prop := ∀ o < 21, w.cell? ⟨B, o, none⟩ = some (.int .i64 (kidAt G k o)) ∧ w.frozen? ⟨B, o, none⟩ = false
theorem kid_keep {a b : World} {B k : Nat} {G : Nat → Int} (hb : Below a.heap.size a b) (h : KidRel B G k a) : KidRel B G k b := fun o ho => ⟨keepCell hb (h o ho).1, keepFrozen hb (h o ho).1 (h o ho).2⟩
theorem kid_step {w : World} {B k : Nat} {G : Nat → Int} (h : KidRel B G k w) :
    KidRel B G (k + 1) (((w.setCell ⟨B, k * 3, none⟩ (.int .i64 (G (k * 3)))).setCell ⟨B, k * 3 + 1, none⟩ (.int .i64 (G (k * 3 + 1)))).setCell ⟨B, k * 3 + 2, none⟩ (.int .i64 (G (k * 3 + 2)))) := by
  intro o ho
  have h0 := h o ho
  constructor
  · by_cases e2 : o = k * 3 + 2
    · subst e2
      have : kidAt G (k + 1) (k * 3 + 2) = G (k * 3 + 2) := if_pos (by omega)
      rw [this]
      exact World.cell?_setCell_same _ _ _ (store_keep (store_keep h0.1 (by simp)) (by simp))
    · rw [World.cell?_setCell_other _ _ _ _ (by simp; try omega)]
      by_cases e1 : o = k * 3 + 1
      · subst e1
        have : kidAt G (k + 1) (k * 3 + 1) = G (k * 3 + 1) := if_pos (by omega)
        rw [this]
        exact World.cell?_setCell_same _ _ _ (store_keep h0.1 (by simp))
      · rw [World.cell?_setCell_other _ _ _ _ (by simp; try omega)]
        by_cases e0 : o = k * 3
        · subst e0
          have : kidAt G (k + 1) (k * 3) = G (k * 3) := if_pos (by omega)
          rw [this]
          exact World.cell?_setCell_same _ _ _ h0.1
        · rw [World.cell?_setCell_other _ _ _ _ (by simp; try omega), h0.1]
          congr 2
          unfold kidAt
          by_cases hl : o < k * 3
          · rw [if_pos hl, if_pos (by omega)]
          · rw [if_neg hl, if_neg (by omega)]
  · simp [h0.2]
/-- The ending that tells seven cells in new memory. -/
def TellsK (w : World) (G : Nat → Int) (E : Int) (e : Ending) (w' : World) : Prop := ∃ Bk, w.heap.size ≤ Bk ∧ e = .returned (.tuple #[.slice (some ⟨Bk, 0, none⟩) 7 7, .int .i64 E]) ∧ KidRel Bk G 7 w'

set_option maxHeartbeats 8000000 in
set_option maxRecDepth 20000 in
theorem ckids_core (r a b : Int) (G : Nat → Int) (r1 : 0 ≤ r) (r2 : r < 12) (hr : (r == 12) = false) (h : Ok4 r a b)
    (hG : ∀ k : Nat, k < 7 → G (k * 3) = r + 1)
    (CH : ∀ k : Nat, k < 7 → ∀ w, Uni w → Calls Tryz.prog 54 #[.agg #[.int .i64 a, .int .i64 b], .int .i64 (k : Int)] w fun e w' => e = .returned (.agg #[.int .i64 (G (k * 3 + 1)), .int .i64 (G (k * 3 + 2))]) ∧ Below w.heap.size w w') (w : World) (hT : Tabs w) :
    Calls Tryz.prog 31 #[.agg #[.int .i64 r, .int .i64 a, .int .i64 b]] w fun e w' => TellsK w G 0 e w' ∧ Below w.heap.size w w' := by
  have OK : Hid (∀ w, Tabs w → Calls Tryz.prog 53 #[.agg #[.int .i64 r, .int .i64 a, .int .i64 b]] w fun e w' => e = .returned (.bool true) ∧ Below w.heap.size w w') := fun w hT => cok_yes r a b h w hT
  have hmk : ∀ w, (Instr.makeSlice 39 (.int .i64 7) (.int .i64 7)).run Tryz.prog w = .ok (.slice (some ⟨w.heap.size, 0, none⟩) 7 7) (w.alloc (.cells #[.int .i64 0, .int .i64 0, .int .i64 0, .int .i64 0, .int .i64 0, .int .i64 0, .int .i64 0, .int .i64 0, .int .i64 0, .int .i64 0, .int .i64 0, .int .i64 0, .int .i64 0, .int .i64 0, .int .i64 0, .int .i64 0, .int .i64 0, .int .i64 0, .int .i64 0, .int .i64 0, .int .i64 0] 34)) := fun _ => by kernel_rfl
  replace CH : Hid _ := CH
  replace hG : Hid _ := hG
  have hT0 : Hid (Tabs w) := hT
  clear hT h
  go_enter Tryz.func31, Tryz.ntmps31
  go_wp2_with fail
  refine (OK.out _ ?_).mono ?_
  · exact hT0.out.below (by go_grown)
  rintro e w1 ⟨rfl, d1⟩
  have c1 : Below w.heap.size w w1 := Below.trans (by go_grown) (d1.mono (by simp; try omega))
  have z0 : w1.cell? ⟨w.heap.size, 0, none⟩ = some (.int .i64 r) := keepCell d1 (by go_simp)
  have qz0 := World.block_lt_of_cell? _ _ z0
  have z1 : w1.cell? ⟨w.heap.size, 1, none⟩ = some (.int .i64 a) := keepCell d1 (by go_simp)
  have z2 : w1.cell? ⟨w.heap.size, 2, none⟩ = some (.int .i64 b) := keepCell d1 (by go_simp)
  have hB := c1
  clear c1 d1
  go_wp2_with fail
  have hx := allocB w1 (.cells #[.int .i64 0, .int .i64 0, .int .i64 0, .int .i64 0, .int .i64 0, .int .i64 0, .int .i64 0, .int .i64 0, .int .i64 0, .int .i64 0, .int .i64 0, .int .i64 0, .int .i64 0, .int .i64 0, .int .i64 0, .int .i64 0, .int .i64 0, .int .i64 0, .int .i64 0, .int .i64 0, .int .i64 0] 34)
  have lz : w.heap.size < w1.heap.size := qz0
  go_loopw [15] (fun v15 wr => ∃ k : Nat, k ≤ 7 ∧ v15 = .int .i64 (k : Int) ∧ Hid (KidRel w1.heap.size G k wr) ∧ Below w1.heap.size w1 wr) (fun v15 _ => 7 - (intOf v15).toNat)
  case atStart =>
    refine ⟨0, by omega, rfl, ?_, hx⟩
    show KidRel _ _ _ _
    intro o ho
    have ho' : o = 0 ∨ o = 1 ∨ o = 2 ∨ o = 3 ∨ o = 4 ∨ o = 5 ∨ o = 6 ∨ o = 7 ∨ o = 8 ∨ o = 9 ∨ o = 10 ∨ o = 11 ∨ o = 12 ∨ o = 13 ∨ o = 14 ∨ o = 15 ∨ o = 16 ∨ o = 17 ∨ o = 18 ∨ o = 19 ∨ o = 20 := by omega
    rcases ho' with rfl | rfl | rfl | rfl | rfl | rfl | rfl | rfl | rfl | rfl | rfl | rfl | rfl | rfl | rfl | rfl | rfl | rfl | rfl | rfl | rfl <;> exact ⟨by go_simp; rfl, by go_simp⟩
  case round =>
    clear hx hmk
    obtain ⟨k, hk, rfl, HR, hX⟩ := hrel
    by_cases hlt : k < 7
    · have CK := CH.out k hlt
      have hr0 := hG.out k hlt
      replace CK : Hid _ := CK
      have y0 := keepCell hX z0
      have y1 := keepCell hX z1
      have y2 := keepCell hX z2
      have hR := HR.out
      obtain ⟨s0, fs0⟩ := hR (k * 3) (by omega)
      obtain ⟨s1, fs1⟩ := hR (k * 3 + 1) (by omega)
      obtain ⟨s2, fs2⟩ := hR (k * 3 + 2) (by omega)
      have lr : w1.heap.size < wr.heap.size := World.block_lt_of_cell? _ _ s0
      have hUr : Hid (Uni wr.drew) := ((hT0.out.below (belowT hB hX)).below (drewB wr)).2
      have hst : Hid (∀ w', Below wr.heap.size wr w' → KidRel w1.heap.size G (k + 1) (((w'.setCell ⟨w1.heap.size, k * 3, none⟩ (.int .i64 (r + 1))).setCell ⟨w1.heap.size, k * 3 + 1, none⟩ (.int .i64 (G (k * 3 + 1)))).setCell ⟨w1.heap.size, k * 3 + 2, none⟩ (.int .i64 (G (k * 3 + 2))))) := fun w' hb => by rw [← hr0]; exact kid_step (kid_keep hb hR)
      have hd := drewB wr
      replace fs0 := keepFrozen hd s0 fs0
      replace fs1 := keepFrozen hd s1 fs1
      replace fs2 := keepFrozen hd s2 fs2
      replace s0 := keepCell hd s0
      replace s1 := keepCell hd s1
      replace s2 := keepCell hd s2
      replace y0 := keepCell hd y0
      replace y1 := keepCell hd y1
      replace y2 := keepCell hd y2
      clear CH hG HR hR hT0 OK z0 z1 z2 hr0
      generalize kidAt G k (k * 3) = U0 at s0
      generalize kidAt G k (k * 3 + 1) = U1 at s1
      generalize kidAt G k (k * 3 + 2) = U2 at s2
      generalize G (k * 3 + 1) = CA at CK hst
      generalize G (k * 3 + 2) = CB at CK hst
      go_wp2_with fail
      go_region_with (go_at_call 54; refine (CK.out _ hUr.out).mono ?_; rintro e w' ⟨rfl, hb⟩; have hbw := hd.trans (hb.mono hd.size); replace fs0 := keepFrozen hb s0 fs0; replace fs1 := keepFrozen hb s1 fs1; replace fs2 := keepFrozen hb s2 fs2; replace s0 := keepCell hb s0; replace s1 := keepCell hb s1; replace s2 := keepCell hb s2; replace y0 := keepCell hb y0; replace y1 := keepCell hb y1; replace y2 := keepCell hb y2)
      all_goals
        go_wp2
        go_roundw
        case rel => exact ⟨k + 1, by omega, by go_num, hst.out _ hbw, (((belowT hX hbw).setCell (by simp) _).setCell (by simp) _).setCell (by simp) _⟩
        case measure => simp [intOf]; omega
    · obtain rfl : k = 7 := by omega
      clear CH hG
      go_wp2
      go_ret2
      exact ⟨⟨_, by omega, rfl, HR.out⟩, belowT hB hX⟩

theorem kidG_0 (r a b : Int) (k : Nat) : kidG r a b (k * 3) = r + 1 := by
  unfold kidG
  rw [if_pos (by omega)]
theorem kidG_1 (r a b : Int) (k : Nat) : kidG r a b (k * 3 + 1) = chA (k : Int) a b := by
  unfold kidG
  rw [if_neg (by omega), if_pos (by omega), show (k * 3 + 1) / 3 = k by omega]
theorem kidG_2 (r a b : Int) (k : Nat) : kidG r a b (k * 3 + 2) = chB (k : Int) a b := by
  unfold kidG
  rw [if_neg (by omega), if_neg (by omega), show (k * 3 + 2) / 3 = k by omega]
theorem kidAt_all (G : Nat → Int) (o : Nat) (ho : o < 21) : kidAt G 7 o = G o := if_pos ho
/-- CHILDREN: seven cells. -/
theorem ckids_yes (r a b : Int) (h : Ok4 r a b) (hr : r < 12) (w : World) (hT : Tabs w) :
    Calls Tryz.prog 31 #[.agg #[.int .i64 r, .int .i64 a, .int .i64 b]] w fun e w' => TellsK w (kidG r a b) 0 e w' ∧ Below w.heap.size w w' := by
  have hp := ok4_part h
  refine ckids_core r a b (kidG r a b) h.1 hr (by simp; omega) h (fun k _ => kidG_0 r a b k) (fun k hk w hU => ?_) w hT
  rw [kidG_1, kidG_2]
  exact cchild_any a b k (by omega) (by omega) (by omega) (by omega) w hU
set_option maxHeartbeats 1000000 in
theorem ckids_bad (r a b : Int) (h : ¬ Ok4 r a b) (w : World) (hT : Tabs w) :
    Calls Tryz.prog 31 #[.agg #[.int .i64 r, .int .i64 a, .int .i64 b]] w fun e w' => e = .returned (.tuple #[.slice none 0 0, .int .i64 2]) ∧ Below w.heap.size w w' := by
  have OK : Hid (∀ w, Tabs w → Calls Tryz.prog 53 #[.agg #[.int .i64 r, .int .i64 a, .int .i64 b]] w fun e w' => e = .returned (.bool false) ∧ Below w.heap.size w w') := fun w hT => cok_no r a b h w hT
  have hT0 : Hid (Tabs w) := hT
  clear hT h
  go_enter Tryz.func31, Tryz.ntmps31
  go_wp2_with fail
  refine (OK.out _ ?_).mono ?_
  · exact hT0.out.below (by go_grown)
  rintro e w1 ⟨rfl, d1⟩
  have c1 : Below w.heap.size w w1 := Below.trans (by go_grown) (d1.mono (by simp; try omega))
  have hB := c1
  clear c1 d1
  go_wp2
  go_ret2
  exact ⟨rfl, hB⟩
set_option maxHeartbeats 1000000 in
theorem ckids_fine (r a b : Int) (h : Ok4 r a b) (hr : (r == 12) = true) (w : World) (hT : Tabs w) :
    Calls Tryz.prog 31 #[.agg #[.int .i64 r, .int .i64 a, .int .i64 b]] w fun e w' => e = .returned (.tuple #[.slice none 0 0, .int .i64 1]) ∧ Below w.heap.size w w' := by
  have OK : Hid (∀ w, Tabs w → Calls Tryz.prog 53 #[.agg #[.int .i64 r, .int .i64 a, .int .i64 b]] w fun e w' => e = .returned (.bool true) ∧ Below w.heap.size w w') := fun w hT => cok_yes r a b h w hT
  have hT0 : Hid (Tabs w) := hT
  clear hT h
  go_enter Tryz.func31, Tryz.ntmps31
  go_wp2_with fail
  refine (OK.out _ ?_).mono ?_
  · exact hT0.out.below (by go_grown)
  rintro e w1 ⟨rfl, d1⟩
  have c1 : Below w.heap.size w w1 := Below.trans (by go_grown) (d1.mono (by simp; try omega))
  have z0 : w1.cell? ⟨w.heap.size, 0, none⟩ = some (.int .i64 r) := keepCell d1 (by go_simp)
  have qz0 := World.block_lt_of_cell? _ _ z0
  have z1 : w1.cell? ⟨w.heap.size, 1, none⟩ = some (.int .i64 a) := keepCell d1 (by go_simp)
  have z2 : w1.cell? ⟨w.heap.size, 2, none⟩ = some (.int .i64 b) := keepCell d1 (by go_simp)
  have hB := c1
  clear c1 d1
  go_wp2
  go_ret2
  exact ⟨rfl, hB⟩
end Go.Proofs.YtlipbdiijjfheaaGreatDoor
