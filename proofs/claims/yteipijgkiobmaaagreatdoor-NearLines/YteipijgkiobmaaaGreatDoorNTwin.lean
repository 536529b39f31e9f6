/-
  The program and the document side by side: Neighbours, Distance, Ring and Disk tell the same rows, numbers and errors of any words and radii; in whatever memory where both tables hold what their texts lay.
-/
import Derived.Test.YteipijgkiobmaaaGreatDoorRNear
import Derived.Test.YteipijgkiobmaaaGreatDoorNAwake
namespace Go.Proofs.YteipijgkiobmaaaGreatDoor
open Go.RowKit

theorem rows_some {r : Nat} {a b : Int} {P : List (Int × Int)} (hP : P.Nodup) : ∃ L, Rows r a b P L := by
  refine ⟨(wordsAt r a b P).mergeSort (fun x y => decide (x ≤ y)), rows_of hP (List.mergeSort_perm _ _) ?_⟩
  have := List.pairwise_mergeSort (le := fun (x y : Int) => decide (x ≤ y)) (fun a b c h1 h2 => by simp at *; omega) (fun a b => by simp; omega) (wordsAt r a b P)
  exact this.imp fun h => by simpa using h
/-- The ending that tells a row and an error. -/
def RowErr (L : List Int) (t : Int) (e : Ending) (w : World) : Prop := ∃ s, e = .returned (.tuple #[s, .int .i64 t]) ∧ RowAt 0 w s L
theorem rowErr_nil {t : Int} {e : Ending} {w : World} (h : e = .returned (.tuple #[.slice none 0 0, .int .i64 t])) : RowErr [] t e w := ⟨_, h, Or.inl ⟨rfl, rfl⟩⟩

/-- One row, told by both. -/
theorem twin_rows {v : Int} {P : List (Int × Int)} {Q : Int × Int → Prop} (hn : P.Nodup) (hP : ∀ x, x ∈ P ↔ Q x) (hl : P.length ≤ 1000) {f g : FuncId} {args : Array Value}
    (h1 : ∀ w, Tabs w → Calls Tryz.prog f args w fun e w' => (∃ L, RowSay w.heap.size L e w' ∧ Rows (wR v).toNat (cellA v) (cellB v) P L) ∧ Below w.heap.size w w')
    (h2 : ∀ w, Calls Tryz.prog g args w fun e w' => RefSay v Q e w' ∧ Below w.heap.size w w') :
    ∃ (L : List Int) (t : Int), L.length ≤ 1000 ∧ (∀ w, Tabs w → Calls Tryz.prog f args w fun e w' => RowErr L t e w' ∧ Below w.heap.size w w') ∧ ∀ w, Calls Tryz.prog g args w fun e w' => RowErr L t e w' ∧ Below w.heap.size w w' := by
  obtain ⟨L, hL⟩ := rows_some (r := (wR v).toNat) (a := cellA v) (b := cellB v) hn
  refine ⟨L, 0, by have := rows_len hL; omega, fun w hT => ?_, fun w => ?_⟩
  · refine (h1 w hT).mono ?_
    rintro e w' ⟨⟨M, ⟨s, he, hs⟩, hM⟩, hb⟩
    obtain rfl := hM.one hL fun _ => Iff.rfl
    exact ⟨⟨s, he, hs.mono (Nat.zero_le _)⟩, hb⟩
  · refine (h2 w).mono ?_
    rintro e w' ⟨⟨s, M, he, hs, hr, hm, -⟩, hb⟩
    obtain rfl := hL.ref hP hr hm
    exact ⟨⟨s, he, hs⟩, hb⟩
theorem twin_none {t : Int} {f g : FuncId} {args : Array Value}
    (h1 : ∀ w, Tabs w → Calls Tryz.prog f args w fun e w' => e = .returned (.tuple #[.slice none 0 0, .int .i64 t]) ∧ Below w.heap.size w w')
    (h2 : ∀ w, Calls Tryz.prog g args w fun e w' => e = .returned (.tuple #[.slice none 0 0, .int .i64 t]) ∧ Below w.heap.size w w') :
    ∃ (L : List Int) (t : Int), L.length ≤ 1000 ∧ (∀ w, Tabs w → Calls Tryz.prog f args w fun e w' => RowErr L t e w' ∧ Below w.heap.size w w') ∧ ∀ w, Calls Tryz.prog g args w fun e w' => RowErr L t e w' ∧ Below w.heap.size w w' :=
  ⟨[], t, Nat.zero_le _, fun w hT => (h1 w hT).mono fun _ _ ⟨he, hb⟩ => ⟨rowErr_nil he, hb⟩, fun w => (h2 w).mono fun _ _ ⟨he, hb⟩ => ⟨rowErr_nil he, hb⟩⟩

theorem twin_neigh (v : Int) (hv : U64 v) : ∃ (L : List Int) (t : Int), L.length ≤ 1000 ∧ (∀ w, Tabs w → Calls Tryz.prog 17 #[.int .u64 v] w fun e w' => RowErr L t e w' ∧ Below w.heap.size w w') ∧ ∀ w, Calls Tryz.prog 19 #[.int .u64 v] w fun e w' => RowErr L t e w' ∧ Below w.heap.size w w' := by
  by_cases h : Whole v
  · exact twin_rows (rngP_nodup 1) (fun x => mem_rngP) (by rw [rngP_len]; omega) (nneigh_yes v h) (rneigh_yes v h)
  · exact twin_none (nneigh_no v hv h) (rneigh_no v hv h)
theorem twin_ring (v k : Int) (hv : U64 v) (hk : k < 0 ∨ k ≤ 12 ∨ 3333 < k) : ∃ (L : List Int) (t : Int), L.length ≤ 1000 ∧ (∀ w, Tabs w → Calls Tryz.prog 9 #[.int .u64 v, .int .i64 k] w fun e w' => RowErr L t e w' ∧ Below w.heap.size w w') ∧ ∀ w, Calls Tryz.prog 22 #[.int .u64 v, .int .i64 k] w fun e w' => RowErr L t e w' ∧ Below w.heap.size w w' := by
  by_cases h : Whole v
  · by_cases h0 : k < 0
    · exact twin_none (nring_no v k 1 hv (.inr (.inl ⟨h, h0, rfl⟩))) (rring_no v k 1 hv (.inr (.inl ⟨h, h0, rfl⟩)))
    · by_cases h1 : 3333 < k
      · exact twin_none (nring_no v k 7 hv (.inr (.inr ⟨h, by omega, h1, rfl⟩))) (rring_no v k 7 hv (.inr (.inr ⟨h, by omega, h1, rfl⟩)))
      · obtain ⟨n, rfl⟩ : ∃ n : Nat, k = n := ⟨k.toNat, by omega⟩
        exact twin_rows (rngP_nodup n) (fun x => mem_rngP) (by rw [rngP_len]; omega) (nring_yes v n h (by omega)) (rring_yes v n h (by omega) (by omega))
  · exact twin_none (nring_no v k 5 hv (.inl ⟨h, rfl⟩)) (rring_no v k 5 hv (.inl ⟨h, rfl⟩))
theorem twin_disk (v k : Int) (hv : U64 v) (hk : k < 0 ∨ k ≤ 12 ∨ 81 < k) : ∃ (L : List Int) (t : Int), L.length ≤ 1000 ∧ (∀ w, Tabs w → Calls Tryz.prog 18 #[.int .u64 v, .int .i64 k] w fun e w' => RowErr L t e w' ∧ Below w.heap.size w w') ∧ ∀ w, Calls Tryz.prog 23 #[.int .u64 v, .int .i64 k] w fun e w' => RowErr L t e w' ∧ Below w.heap.size w w' := by
  by_cases h : Whole v
  · by_cases h0 : k < 0
    · exact twin_none (ndisk_no v k 1 hv (.inr (.inl ⟨h, h0, rfl⟩))) (rdisk_no v k 1 hv (.inr (.inl ⟨h, h0, rfl⟩)))
    · by_cases h1 : 81 < k
      · exact twin_none (ndisk_no v k 7 hv (.inr (.inr ⟨h, by omega, h1, rfl⟩))) (rdisk_no v k 7 hv (.inr (.inr ⟨h, by omega, h1, rfl⟩)))
      · obtain ⟨n, rfl⟩ : ∃ n : Nat, k = n := ⟨k.toNat, by omega⟩
        have hl : (diskP (n + 1)).length ≤ 1000 := by
          rw [diskP_len]
          have : 3 * n * (n + 1) ≤ 36 * 13 := Nat.mul_le_mul (by omega) (by omega)
          omega
        exact twin_rows (diskP_nodup (n + 1)) (fun x => by rw [mem_diskP]; omega) hl (ndisk_yes v n h (by omega)) (rdisk_yes v n h (by omega) (by omega))
  · exact twin_none (ndisk_no v k 5 hv (.inl ⟨h, rfl⟩)) (rdisk_no v k 5 hv (.inl ⟨h, rfl⟩))
theorem twin_dist (v u : Int) (hv : U64 v) (hu : U64 u) : ∃ (n t : Int), (∀ w, Tabs w → Calls Tryz.prog 12 #[.int .u64 v, .int .u64 u] w fun e w' => e = .returned (.tuple #[.int .i64 n, .int .i64 t]) ∧ Below w.heap.size w w') ∧ ∀ w, Calls Tryz.prog 20 #[.int .u64 v, .int .u64 u] w fun e w' => e = .returned (.tuple #[.int .i64 n, .int .i64 t]) ∧ Below w.heap.size w w' := by
  by_cases h1 : Whole v
  · by_cases h2 : Whole u
    · by_cases h3 : wR u = wR v
      · exact ⟨_, _, ndist_yes v u h1 h2 h3, rdist_yes v u h1 h2 h3⟩
      · have hn : PairNo v u 8 := .inr (.inr ⟨h1, h2, fun h => h3 h.symm, rfl⟩)
        exact ⟨_, _, ndist_no v u 8 hv hu hn, rdist_no v u 8 hv hu hn⟩
    · have hn : PairNo v u 5 := .inr (.inl ⟨h1, h2, rfl⟩)
      exact ⟨_, _, ndist_no v u 5 hv hu hn, rdist_no v u 5 hv hu hn⟩
  · have hn : PairNo v u 5 := .inl ⟨h1, rfl⟩
    exact ⟨_, _, ndist_no v u 5 hv hu hn, rdist_no v u 5 hv hu hn⟩
end Go.Proofs.YteipijgkiobmaaaGreatDoor
