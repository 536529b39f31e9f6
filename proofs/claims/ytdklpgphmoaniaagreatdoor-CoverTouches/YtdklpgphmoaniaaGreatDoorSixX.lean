/-
  Six cells of a number of the lattice stay through what a region that draws its order does: a call, a new number, its store.
-/
import Derived.Test.YtdklpgphmoaniaaGreatDoorE1X
import Derived.Test.YtdklpgphmoaniaaGreatDoorProg
import Derived.Handy
import Derived.Deep.QuietTactic
import Derived.WalkSpells
import Derived.WalkLawsBesides
import Derived.BigQuiet
import Derived.PlainAid
import Derived.Deep.RegionWith
import Derived.Laws.BitsAllLaws
import Derived.Deep.RegionHeld3
namespace Go.Proofs.YtdklpgphmoaniaaGreatDoor
open Go.RowKit

theorem new_drew (w : World) : NewE w.heap.size (w.alloc (.cells #[.int .i64 0, .int .i64 0] 23)).drew := ⟨by go_simp, by go_simp, by go_simp, by go_simp⟩

theorem new_second (w : World) (o : Obj) : NewE (w.heap.size + 1) ((w.alloc o).alloc (.cells #[.int .i64 0, .int .i64 0] 23)).drew := ⟨by go_simp, by go_simp, by go_simp, by go_simp⟩

theorem new_second' (w : World) (o : Obj) : NewE (w.heap.size + 1) ((w.alloc o).drew.alloc (.cells #[.int .i64 0, .int .i64 0] 23)) := ⟨by go_simp, by go_simp, by go_simp, by go_simp⟩

theorem keepSixStore {w0 a : World} {p0 p1 p2 p3 p4 p5 : Addr} {B : Nat} {v0 v1 v2 v3 v4 v5 x y : Value} (n0 : B ≠ p0.block) (n1 : B ≠ p1.block) (n2 : B ≠ p2.block) (n3 : B ≠ p3.block) (n4 : B ≠ p4.block) (n5 : B ≠ p5.block) (hB : w0.heap.size ≤ B) (h : a.cell? p0 = some v0 ∧ a.cell? p1 = some v1 ∧ a.cell? p2 = some v2 ∧ a.cell? p3 = some v3 ∧ a.cell? p4 = some v4 ∧ a.cell? p5 = some v5 ∧ Below w0.heap.size w0 a) : ((a.setCell ⟨B, 0, none⟩ x).setCell ⟨B, 1, none⟩ y).cell? p0 = some v0 ∧ ((a.setCell ⟨B, 0, none⟩ x).setCell ⟨B, 1, none⟩ y).cell? p1 = some v1 ∧ ((a.setCell ⟨B, 0, none⟩ x).setCell ⟨B, 1, none⟩ y).cell? p2 = some v2 ∧ ((a.setCell ⟨B, 0, none⟩ x).setCell ⟨B, 1, none⟩ y).cell? p3 = some v3 ∧ ((a.setCell ⟨B, 0, none⟩ x).setCell ⟨B, 1, none⟩ y).cell? p4 = some v4 ∧ ((a.setCell ⟨B, 0, none⟩ x).setCell ⟨B, 1, none⟩ y).cell? p5 = some v5 ∧ Below w0.heap.size w0 ((a.setCell ⟨B, 0, none⟩ x).setCell ⟨B, 1, none⟩ y) := by
  have f : ∀ (p : Addr) (o : Nat), B ≠ p.block → (⟨B, o, none⟩ : Addr) ≠ p := fun p o h e => h (by rw [← e])
  obtain ⟨h0, h1, h2, h3, h4, h5, hw⟩ := h
  exact ⟨store_keep (store_keep h0 (f _ _ n0)) (f _ _ n0), store_keep (store_keep h1 (f _ _ n1)) (f _ _ n1), store_keep (store_keep h2 (f _ _ n2)) (f _ _ n2), store_keep (store_keep h3 (f _ _ n3)) (f _ _ n3), store_keep (store_keep h4 (f _ _ n4)) (f _ _ n4), store_keep (store_keep h5 (f _ _ n5)) (f _ _ n5), (hw.setCell hB _).setCell hB _⟩

theorem keepSixSwap {w0 a : World} {o o' : Obj} {p0 p1 p2 p3 p4 p5 : Addr} {v0 v1 v2 v3 v4 v5 : Value} (q0 : p0.block < a.heap.size) (q1 : p1.block < a.heap.size) (q2 : p2.block < a.heap.size) (q3 : p3.block < a.heap.size) (q4 : p4.block < a.heap.size) (q5 : p5.block < a.heap.size) (hs : w0.heap.size ≤ a.heap.size) (h : (a.alloc o).cell? p0 = some v0 ∧ (a.alloc o).cell? p1 = some v1 ∧ (a.alloc o).cell? p2 = some v2 ∧ (a.alloc o).cell? p3 = some v3 ∧ (a.alloc o).cell? p4 = some v4 ∧ (a.alloc o).cell? p5 = some v5 ∧ Below w0.heap.size w0 (a.alloc o)) : (a.alloc o').cell? p0 = some v0 ∧ (a.alloc o').cell? p1 = some v1 ∧ (a.alloc o').cell? p2 = some v2 ∧ (a.alloc o').cell? p3 = some v3 ∧ (a.alloc o').cell? p4 = some v4 ∧ (a.alloc o').cell? p5 = some v5 ∧ Below w0.heap.size w0 (a.alloc o') := by
  obtain ⟨h0, h1, h2, h3, h4, h5, hw⟩ := h
  have f : ∀ {p : Addr} {v : Value}, p.block < a.heap.size → (a.alloc o).cell? p = some v → (a.alloc o').cell? p = some v := fun q h => ((allocB a o').cell q).trans (((allocB a o).cell q).symm.trans h)
  exact ⟨f q0 h0, f q1 h1, f q2 h2, f q3 h3, f q4 h4, f q5 h5, swapB hs hw⟩

end Go.Proofs.YtdklpgphmoaniaaGreatDoor
