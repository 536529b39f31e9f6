/-
  What layer 6's own look at what the document fixes tells: yes; and what all statements of the layer need about a point's cell; in whatever memory where both tables hold what their texts lay.
-/
import Derived.Test.YteipijgkiobmaabGreatDoorNRD
import Derived.Test.YteipijgkiobmaabGreatDoorRLook
import Derived.Test.YteipijgkiobmaabGreatDoorNB2
import Derived.Test.YteipijgkiobmaabGreatDoorNB6
namespace Go.Proofs.YteipijgkiobmaabGreatDoor
open Go.RowKit

theorem rows_whole {r : Nat} {a b : Int} {P : List (Int × Int)} {L : List Int} (h : Rows r a b P L) : ∀ y ∈ L, U64 y := fun y hy => by
  have := whole_box (h.whole hy).1
  exact ⟨by omega, by omega⟩
theorem rows_len {r : Nat} {a b : Int} {P : List (Int × Int)} {L : List Int} (h : Rows r a b P L) : L.length ≤ P.length := by rw [h.len]; exact wordsAt_len r a b P
theorem rows_all {r : Nat} {a b : Int} {P : List (Int × Int)} {L : List Int} (h : Rows r a b P L) (hm : Mid r a b) (hP : ∀ x ∈ P, stp x.1 x.2 ≤ 24) : L.length = P.length := by rw [h.len]; exact wordsAt_all fun p hp => hm.ok (hP p hp)
/-- A word's size and cell as the walks name them. -/
theorem word_at {v : Int} (h : Whole v) : ∃ r : Nat, wR v = r ∧ r ≤ 12 ∧ Ok4 (r : Int) (cellA v) (cellB v) ∧ v = wordOf r (cellA v) (cellB v) := by
  have h0 := wR_box v
  have h1 := h.2.1
  obtain ⟨r, er⟩ : ∃ r : Nat, wR v = r := ⟨(wR v).toNat, by omega⟩
  have h2 := cell_ok h
  have h3 := word_cell h
  rw [er] at h2 h3
  rw [show ((r : Int)).toNat = r by omega] at h3
  exact ⟨r, er, by omega, h2, h3.symm⟩
theorem word_eq {r : Nat} {a b : Int} (h : Ok4 (r : Int) a b) : Whole (wordOf r a b) ∧ wR (wordOf r a b) = r ∧ cellA (wordOf r a b) = a ∧ cellB (wordOf r a b) = b ∧ U64 (wordOf r a b) := by
  have h1 := word_parts h
  have h2 := cell_word h
  exact ⟨h1.1, h1.2.1, h2.1, h2.2, h1.2.2.2.2.2.1, by have := h1.2.2.2.2.2.2; omega⟩
theorem mid_zero : Mid 0 0 0 := ⟨by omega, by decide⟩

set_option maxHeartbeats 4000000 in
set_option maxRecDepth 20000 in
theorem nawake (w : World) (hT : Tabs w) : Calls Tryz.prog 10 #[] w fun e w' => e = .returned (.bool true) ∧ Below w.heap.size w w' := by
  have hM := mid_zero
  have hO := hM.self
  have hz := word_eq hO
  have RW : Hid (∀ w, Calls Tryz.prog 14 #[.agg #[.int .i64 0, .int .i64 0, .int .i64 0]] w fun e w' => e = .returned (.tuple #[.int .u64 (wordOf 0 0 0), .int .i64 0]) ∧ Below w.heap.size w w') := rword_yes 0 0 0 hO
  have NE := hidd (nneigh_yes _ hz.1)
  have RI := hidd (nring_yes _ 1 hz.1 (by omega))
  have DI := hidd (ndisk_yes _ 2 hz.1 (by omega))
  rw [hz.2.1, hz.2.2.1, hz.2.2.2.1] at NE RI DI
  generalize wordOf 0 0 0 = Z at *
  have l6 : ∀ L, Rows 0 0 0 (rngP 1) L → L.length = 6 := fun L h => rows_all h hM fun x hx => by have := mem_rngP.1 hx; omega
  have l19 : ∀ L, Rows 0 0 0 (diskP 3) L → L.length = 19 := fun L h => rows_all h hM fun x hx => by have := mem_diskP.1 hx; omega
  have one : ∀ L M, Rows 0 0 0 (rngP 1) L → Rows 0 0 0 (rngP 1) M → L = M := fun L M h k => h.one k fun _ => Iff.rfl
  replace l6 := hidd l6
  replace l19 := hidd l19
  replace one := hidd one
  have hT0 : Hid (Tabs w) := hT
  clear hT hO hz hM
  go_enter Tryz.func10, Tryz.ntmps10
  go_wp2_with fail
  refine (RW.out _).mono ?_
  rintro e w1 ⟨rfl, d1⟩
  have c1 : Below w.heap.size w w1 := Below.trans (by go_grown) (d1.mono (by simp; try omega))
  have hB := c1
  clear c1 d1
  have T1 := hidd (hT0.out.below hB)
  go_wp2_with fail
  refine (NE.out w1 T1.out).mono ?_
  rintro e w2 ⟨⟨L1, ⟨s1, rfl, r1⟩, h1⟩, b2⟩
  have T2 := hidd (T1.out.below b2)
  have B2 := belowT hB b2
  have R1 := hidd r1
  have H1 := hidd h1
  clear r1 h1 T1 NE hB b2
  go_wp2_with fail
  refine (RI.out w2 T2.out).mono ?_
  rintro e w3 ⟨⟨L2, ⟨s2, rfl, r2⟩, h2⟩, b3⟩
  have T3 := hidd (T2.out.below b3)
  have B3 := belowT B2 b3
  obtain rfl := one.out _ _ H1.out h2
  replace R1 := hidd (R1.out.keep b3)
  have R2 := hidd r2
  clear r2 h2 T2 RI B2 b3
  go_wp2_with fail
  refine (DI.out w3 T3.out).mono ?_
  rintro e w4 ⟨⟨L3, ⟨s3, rfl, r3⟩, h3⟩, b4⟩
  have B4 := belowT B3 b4
  have n1 := l6.out _ H1.out
  have n3 := l19.out _ h3
  have SA := hidd (rsame _ _ s1 s2 L1 (by omega) w4 (R1.out.keep b4) (R2.out.keep b4))
  obtain ⟨p1, k1, rfl, -⟩ := R1.out.form
  obtain ⟨p3, k3, rfl, -⟩ := r3.form
  rw [n1, n3]
  rw [n1] at SA
  clear r3 h3 T3 DI B3 b4 R1 R2 H1 n1 n3 one l6 l19
  go_wp2_with (first | (go_at_call 17; refine SA.out.mono ?_; rintro e w5 ⟨rfl, b5⟩))
  go_ret
  exact ⟨rfl, belowT B4 b5⟩
end Go.Proofs.YteipijgkiobmaabGreatDoor
