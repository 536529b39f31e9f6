/-
  What package cell's walker tells: one step up; several steps, by a function that is handed on; what is above a cell of any size; for cells with parts within the bounds, in whatever memory where both tables hold what their texts lay.
-/
import Derived.Test.YtlipbdiijjfheaaGreatDoorCSplit
import Derived.BigRegion
namespace Go.Proofs.YtlipbdiijjfheaaGreatDoor
open Go.RowKit

/-- Both tables hold behind what writes only from a block on. -/
theorem Tabs.low {B : Nat} {w w' : World} (h : Tabs w) (g0 : 1 < B) (g1 : 4 < B) (hb : Below B w w') : Tabs w' := ⟨var?_below hb gDigs g0 h.1, var?_below hb gUni g1 h.2⟩
theorem Tabs.lt {w : World} (h : Tabs w) : 1 < w.heap.size ∧ 4 < w.heap.size :=
  ⟨World.block_lt_of_cell? _ _ (show w.cell? ⟨1, 0, none⟩ = some (.int .i64 0) from h.1.cell 0), World.block_lt_of_cell? _ _ (show w.cell? ⟨4, 0, none⟩ = some (.int .i64 1) from h.2.cell 0)⟩

/-- A block of three cells that may be written. -/
def Three (B : Nat) (r a b : Int) (w : World) : Prop := w.cell? ⟨B, 0, none⟩ = some (.int .i64 r) ∧ w.cell? ⟨B, 1, none⟩ = some (.int .i64 a) ∧ w.cell? ⟨B, 2, none⟩ = some (.int .i64 b) ∧ w.frozen? ⟨B, 0, none⟩ = false ∧ w.frozen? ⟨B, 1, none⟩ = false ∧ w.frozen? ⟨B, 2, none⟩ = false
theorem three_stores {w : World} {b : Nat} {x0 x1 x2 u0 u1 u2 : Value} (h0 : w.cell? ⟨b, 0, none⟩ = some x0) (h1 : w.cell? ⟨b, 1, none⟩ = some x1) (h2 : w.cell? ⟨b, 2, none⟩ = some x2) :
    (((w.setCell ⟨b, 0, none⟩ u0).setCell ⟨b, 1, none⟩ u1).setCell ⟨b, 2, none⟩ u2).cell? ⟨b, 0, none⟩ = some u0 ∧ (((w.setCell ⟨b, 0, none⟩ u0).setCell ⟨b, 1, none⟩ u1).setCell ⟨b, 2, none⟩ u2).cell? ⟨b, 1, none⟩ = some u1 ∧ (((w.setCell ⟨b, 0, none⟩ u0).setCell ⟨b, 1, none⟩ u1).setCell ⟨b, 2, none⟩ u2).cell? ⟨b, 2, none⟩ = some u2 :=
  ⟨store_keep (store_keep (store_new h0) (by simp)) (by simp), store_keep (store_new (store_keep h1 (by simp))) (by simp), store_new (store_keep (store_keep h2 (by simp)) (by simp))⟩

set_option maxHeartbeats 4000000 in
theorem cup_core (B : Nat) (r a b P Q d : Int) (r1 : -1000 ≤ r) (r2 : r ≤ 1000)
    (SP : ∀ w, Tabs w → Calls Tryz.prog 94 #[.agg #[.int .i64 a, .int .i64 b]] w fun e w' => e = .returned (.tuple #[.agg #[.int .i64 P, .int .i64 Q], .int .i64 d]) ∧ Below w.heap.size w w')
    (w : World) (h : Three B r a b w) (hT : Tabs w) :
    Calls Tryz.prog 106 #[.pointer (some ⟨B, 0, none⟩)] w fun e w' => e = .returned (.tuple #[]) ∧ Three B (r - 1) P Q w' ∧ Below B w w' := by
  replace SP : Hid _ := SP
  have hT0 : Hid (Tabs w) := hT
  clear hT
  obtain ⟨x0, x1, x2, f0, f1, f2⟩ := h
  have hBw := World.block_lt_of_cell? _ _ x0
  go_enter Tryz.func106, Tryz.ntmps106
  go_wp2_with fail
  refine (SP.out _ ?_).mono ?_
  · exact hT0.out.below (by go_grown)
  rintro e w1 ⟨rfl, d1⟩
  replace f0 := keepFrozen d1 x0 f0
  replace f1 := keepFrozen d1 x1 f1
  replace f2 := keepFrozen d1 x2 f2
  replace x0 := keepCell d1 x0
  replace x1 := keepCell d1 x1
  replace x2 := keepCell d1 x2
  have hB1 : B < w1.heap.size := World.block_lt_of_cell? _ _ x0
  have hB : Below B w w1 := d1.mono (by omega)
  have n1 : ¬ w1.heap.size = B := by omega
  have n2 : ¬ B = w1.heap.size := by omega
  obtain ⟨g0, g1, g2⟩ := three_stores (u0 := .int .i64 (r - 1)) (u1 := .int .i64 P) (u2 := .int .i64 Q) x0 x1 x2
  clear d1 SP hT0
  go_wp2_with fail
  go_big_region
  all_goals
    go_wp2
    go_end0
    have hz := (allocB ((((w1.setCell ⟨B, 0, none⟩ (.int .i64 (r - 1))).setCell ⟨B, 1, none⟩ (.int .i64 P)).setCell ⟨B, 2, none⟩ (.int .i64 Q))) (.cells #[.int .i64 P, .int .i64 Q] 32)).drew
    have e0 := keepFrozen hz g0 (by simp [f0])
    have e1 := keepFrozen hz g1 (by simp [f1])
    have e2 := keepFrozen hz g2 (by simp [f2])
    exact ⟨rfl, ⟨keepCell hz g0, keepCell hz g1, keepCell hz g2, e0, e1, e2⟩, ((((hB.setCell (by simp) _).setCell (by simp) _).setCell (by simp) _).alloc (by simp; omega) _).drew⟩
/-- UP: the walker stands at the parent. -/
theorem cup_any (B : Nat) (r a b : Int) (r1 : -1000 ≤ r) (r2 : r ≤ 1000) (ha : In30c a) (hb : In30c b) (w : World) (h : Three B r a b w) (hT : Tabs w) :
    Calls Tryz.prog 106 #[.pointer (some ⟨B, 0, none⟩)] w fun e w' => e = .returned (.tuple #[]) ∧ Three B (r - 1) (parA a b) (parB a b) w' ∧ Below B w w' :=
  cup_core B r a b _ _ (dig a b) r1 r2 (csplit_any a b ha hb) w h hT

set_option maxHeartbeats 2000000 in
theorem crepeat_any (B n : Nat) (r a b : Int) (hn : n ≤ 12) (r1 : 0 ≤ r) (r2 : r ≤ 12) (ha : In30c a) (hb : In30c b) (w : World) (h : Three B r a b w) (g0 : 1 < B) (g1 : 4 < B) (hT : Tabs w) :
    Calls Tryz.prog 105 #[.int .i64 (n : Int), .func (.func 106) #[.pointer (some ⟨B, 0, none⟩)] #[]] w fun e w' => e = .returned (.tuple #[]) ∧ Three B (r - n) (ups n a b).1 (ups n a b).2 w' ∧ Below B w w' := by
  have UP : Hid (∀ k : Nat, k ≤ 12 → ∀ wr, Three B (r - k) (ups k a b).1 (ups k a b).2 wr → Tabs wr → Calls Tryz.prog 106 #[.pointer (some ⟨B, 0, none⟩)] wr fun e w' => e = .returned (.tuple #[]) ∧ Three B (r - ((k + 1 : Nat) : Int)) (ups (k + 1) a b).1 (ups (k + 1) a b).2 w' ∧ Below B wr w') := by
    intro k hk wr h hT
    have hx := ups_box (B := 1073741824) (by omega) k (a := a) (b := b) ha hb
    have := cup_any B (r - k) _ _ (by omega) (by omega) hx.1 hx.2 wr h hT
    rw [ups_last, show r - ((k + 1 : Nat) : Int) = r - k - 1 by omega]
    exact this
  have hT0 : Hid (Tabs w) := hT
  have h0 : Hid (Three B r a b w) := h
  clear hT h
  go_enter Tryz.func105, Tryz.ntmps105
  go_wp2_with fail
  go_loopw [5] (fun v5 wr => ∃ k : Nat, k ≤ n ∧ v5 = .int .i64 (k : Int) ∧ Hid (Three B (r - k) (ups k a b).1 (ups k a b).2 wr) ∧ Below B w wr) (fun v5 _ => n - (intOf v5).toNat)
  case atStart =>
    refine ⟨0, by omega, rfl, ?_, Below.refl _ _⟩
    show Three B (r - ((0 : Nat) : Int)) a b w
    rw [show r - ((0 : Nat) : Int) = r by omega]
    exact h0.out
  case round =>
    obtain ⟨k, hk, rfl, HR, hB⟩ := hrel
    by_cases hlt : k < n
    · go_wp2_with fail
      refine (UP.out k (by omega) _ HR.out (hT0.out.low g0 g1 hB)).mono ?_
      rintro e v1 ⟨rfl, h3, hb'⟩
      have h3' : Hid (Three B (r - ((k + 1 : Nat) : Int)) (ups (k + 1) a b).1 (ups (k + 1) a b).2 v1) := h3
      have hB' : Below B w v1 := hB.trans hb'
      clear h3 HR hB hb'
      go_wp2
      go_roundw
      case rel => exact ⟨k + 1, by omega, by go_num, h3', hB'⟩
      case measure => simp [intOf]; omega
    · obtain rfl : k = n := by omega
      go_wp2
      go_end0
      exact ⟨rfl, HR.out, hB⟩
end Go.Proofs.YtlipbdiijjfheaaGreatDoor
