/-
  What the texts SortKit, RSeek say, so far as this seat's proofs need it.
-/
import Derived.Test.YtdklpgphmoaniaaGreatDoorSPdqX
import Derived.Sort.LotD3
import Derived.Deep.Cut
import Derived.Deep.LoopGhost
import Derived.Sort.WalkA6
import Derived.Test.YtdklpgphmoaniaaGreatDoorProg
import Derived.Handy
import Derived.Deep.QuietTactic
import Derived.Sort.Walk13a
import Derived.Sort.LotA
import Derived.Sort.LotB
import Derived.Sort.LotD1
import Derived.Deep.Draws
import Derived.WalkKit
import Derived.BigGuard
import Derived.BigCall
import Derived.CellFam
import Derived.BigQuiet
import Derived.WalkSpells
import Derived.WalkLawsBesides
import Derived.PlainAid
import Derived.Deep.RegionWith
import Derived.Laws.BitsAllLaws
import Derived.Deep.RegionHeld3
import Derived.Sort.WalkB3
import Derived.WalkSmall
import Derived.Deep.CutRange
import Derived.BigRegion
import Derived.OwnWalk
import Derived.Laws.OwnMore
import Derived.OneCell
import Derived.Laws.CopyOwn
import Derived.Sort.Row
namespace Go.Proofs.YtdklpgphmoaniaaGreatDoor
open Go.RowKit

/-- A row as a call tells it: its words, in a block from C on. -/
def RowAt (C : Nat) (w : World) (s : Value) (L : List Int) : Prop := (L = [] ∧ s = .slice none 0 0) ∨ ∃ g cap, s = .slice (some ⟨g, 0, none⟩) L.length cap ∧ C ≤ g ∧ ∀ (j : Nat) (hj : j < L.length), w.cell? ⟨g, j, none⟩ = some (.int .u64 L[j])

theorem RowAt.keep {C : Nat} {w w' : World} {s : Value} {L : List Int} (h : RowAt C w s L) (hb : Below w.heap.size w w') : RowAt C w' s L := by
  rcases h with h | ⟨g, cap, h1, h2, h3⟩
  · exact Or.inl h
  · exact Or.inr ⟨g, cap, h1, h2, fun j hj => keepCell hb (h3 j hj)⟩

theorem RowAt.mono {C D : Nat} {w : World} {s : Value} {L : List Int} (h : RowAt C w s L) (hD : D ≤ C) : RowAt D w s L := by
  rcases h with h | ⟨g, cap, h1, h2, h3⟩
  · exact Or.inl h
  · exact Or.inr ⟨g, cap, h1, by omega, h3⟩

theorem sorts_list {n : Nat} {L : List Int} {d' : Array Int} (hL : L.length = n) (h : Sorts 0 n L.toArray d') : d'.toList.Perm L ∧ d'.toList.Pairwise (· ≤ ·) ∧ d'.size = n := by
  have hs : d'.size = n := by rw [h.1.1]; simpa using hL
  have hp := h.1.2.2
  have e1 : (d'.extract 0 n).toList = d'.toList := by simp [← hs]
  have e2 : (L.toArray.extract 0 n).toList = L := by simp [← hL]
  rw [e1, e2] at hp
  refine ⟨hp, List.pairwise_iff_getElem.2 fun i j hi hj hij => ?_, hs⟩
  have := sorted_le h.2 (i := i) (j := j) (Nat.zero_le _) hij (by simpa [hs] using hj)
  simpa [show i < d'.size by simpa using hi, show j < d'.size by simpa using hj] using this

set_option maxHeartbeats 2000000 in
/-- A row of no words is sorted. -/
theorem u_sort_nil (w : World) : Calls Tryz.prog 76 #[.slice none 0 0] w fun e w' => e = .returned (.tuple #[]) ∧ Below w.heap.size w w' := by
  have L : Hid (∀ w, Calls Tryz.prog 115 #[.int .u64 0] w fun e w' => e = .returned (.int .i64 0) ∧ w' = w) := fun w => by
    have := bits_len 0 w (by omega) (by omega)
    rw [show (Lib.bitLen ((0 : Int)).toNat : Int) = 0 by decide] at this
    exact this
  have IN : Hid (∀ w, Calls Tryz.prog 144 #[.slice none 0 0, .int .i64 0, .int .i64 0] w fun e w' => e = .returned (.tuple #[]) ∧ w' = w) := by
    refine hid_mk fun w => ?_
    go_enter Tryz.func144, Tryz.ntmps144
    go_wp2_with fail
    go_loopw [6] (fun v6 wr => v6 = .int .i64 1 ∧ wr = w) (fun _ _ => 0)
    case atStart => exact ⟨rfl, rfl⟩
    case round =>
      obtain ⟨rfl, rfl⟩ := hrel
      go_wp2
      go_end0
      exact ⟨rfl, rfl⟩
  have PD : Hid (∀ w, Calls Tryz.prog 114 #[.slice none 0 0, .int .i64 0, .int .i64 0, .int .i64 0] w fun e w' => e = .returned (.tuple #[]) ∧ w' = w) := by
    refine hid_mk fun w => ?_
    go_enter Tryz.func114, Tryz.ntmps114
    go_wp2_with fail
    go_loopw [1, 2, 3, 8, 9] (fun v1 v2 v3 v8 v9 wr => v1 = .int .i64 0 ∧ v2 = .int .i64 0 ∧ v3 = .int .i64 0 ∧ v8 = .bool true ∧ v9 = .bool true ∧ wr = w) (fun _ _ _ _ _ _ => 0)
    case atStart => exact ⟨rfl, rfl, rfl, rfl, rfl, rfl⟩
    case round =>
      obtain ⟨rfl, rfl, rfl, rfl, rfl, rfl⟩ := hrel
      go_wp2_with fail
      refine (IN.out _).mono ?_
      rintro e w1 ⟨rfl, rfl⟩
      go_wp2_with fail
      (try simp only [Exit.inBlock, Exit.then]); refine bodyPost_ret (results_none rfl _ _ _) rfl ?_
      exact ⟨rfl, rfl⟩
  go_enter Tryz.func76, Tryz.ntmps76
  go_wp2_with (first | (go_at_call 115; refine (L.out _).mono ?_; rintro e w' ⟨rfl, rfl⟩))
  refine (PD.out _).mono ?_
  rintro e w1 ⟨rfl, rfl⟩
  go_wp2_with fail
  go_end0
  exact ⟨rfl, Below.refl _ _⟩

end Go.Proofs.YtdklpgphmoaniaaGreatDoor
namespace Go.Proofs.YtdklpgphmoaniaaGreatDoor
open Go.RowKit

theorem take_next {X : List Int} {k : Nat} (h : k < X.length) : X.take (k + 1) = X.take k ++ [X[k]] := List.take_succ_eq_append_getElem h

theorem ins_facts {L : List Int} {x : Int} {lo : Nat} (hR : Rising L) (hlo : lo ≤ L.length) (h1 : ∀ (t : Nat) (ht : t < L.length), t < lo → L[t] < x) (h2 : ∀ (t : Nat) (ht : t < L.length), lo ≤ t → x < L[t]) :
    Rising (L.take lo ++ (x :: L.drop lo)) ∧ ∀ y, y ∈ L.take lo ++ (x :: L.drop lo) ↔ y ∈ L ∨ y = x := by
  have hT : ∀ y ∈ L.take lo, y < x := fun y hy => by
    obtain ⟨t, ht, rfl⟩ := List.mem_iff_getElem.1 hy
    rw [List.length_take] at ht
    rw [List.getElem_take]
    exact h1 t (by omega) (by omega)
  have hD : ∀ y ∈ L.drop lo, x < y := fun y hy => by
    obtain ⟨t, ht, rfl⟩ := List.mem_iff_getElem.1 hy
    rw [List.length_drop] at ht
    rw [List.getElem_drop]
    exact h2 (lo + t) (by omega) (by omega)
  refine ⟨List.pairwise_append.2 ⟨hR.sublist (List.take_sublist _ _), List.pairwise_cons.2 ⟨hD, hR.sublist (List.drop_sublist _ _)⟩, fun a ha b hb => ?_⟩, fun y => ?_⟩
  · rcases List.mem_cons.1 hb with rfl | hb
    · exact hT a ha
    · have := hT a ha; have := hD b hb; omega
  · rw [List.mem_append, List.mem_cons]
    have e : y ∈ L ↔ y ∈ L.take lo ∨ y ∈ L.drop lo := by rw [← List.mem_append, List.take_append_drop]
    rw [e]
    constructor
    · rintro (h | h | h)
      · exact .inl (.inl h)
      · exact .inr h
      · exact .inl (.inr h)
    · rintro ((h | h) | h)
      · exact .inl h
      · exact .inr (.inr h)
      · exact .inr (.inl h)

theorem rise_at {L : List Int} (h : Rising L) {i j : Nat} (hi : i < L.length) (hj : j < L.length) (hij : i < j) : L[i] < L[j] := List.pairwise_iff_getElem.1 h i j hi hj hij

theorem rise_le {L : List Int} (h : Rising L) {i j : Nat} (hi : i < L.length) (hj : j < L.length) (hij : i ≤ j) : L[i] ≤ L[j] := by
  rcases Nat.lt_or_ge i j with k | k
  · have := rise_at h hi hj k; omega
  · obtain rfl : i = j := by omega
    exact Int.le_refl _

/-- How far a search has come: what stands ahead of lo is less, what stands from hi on is not. -/
def Seek (L : List Int) (x : Int) (lo hi : Nat) : Prop := (∀ (t : Nat) (ht : t < L.length), t < lo → L[t] < x) ∧ ∀ (t : Nat) (ht : t < L.length), hi ≤ t → x ≤ L[t]

theorem Seek.up {L : List Int} {x : Int} {lo hi mid : Nat} (h : Seek L x lo hi) (hR : Rising L) (hm : mid < L.length) (hx : L[mid] < x) : Seek L x (mid + 1) hi :=
  ⟨fun t ht hl => by have := rise_le hR ht hm (by omega); omega, h.2⟩

theorem Seek.down {L : List Int} {x : Int} {lo hi mid : Nat} (h : Seek L x lo hi) (hR : Rising L) (hm : mid < L.length) (hx : x ≤ L[mid]) : Seek L x lo mid :=
  ⟨h.1, fun t ht hl => by have := rise_le hR hm ht hl; omega⟩

end Go.Proofs.YtdklpgphmoaniaaGreatDoor
