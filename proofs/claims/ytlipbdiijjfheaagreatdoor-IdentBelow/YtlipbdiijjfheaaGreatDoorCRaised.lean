/-
  What package cell's raised tells: what is above a cell of a size that is none below its own; for cells with parts within the bounds, in whatever memory where both tables hold what their texts lay.
-/
import Derived.Test.YtlipbdiijjfheaaGreatDoorCUp
namespace Go.Proofs.YtlipbdiijjfheaaGreatDoor
open Go.RowKit

set_option maxHeartbeats 2000000 in
theorem craised_core (r a b t P Q : Int) (t0 : 0 ≤ t) (t1 : t ≤ r) (r2 : r ≤ 12)
    (RE : ∀ B w, Three B r a b w → 1 < B → 4 < B → Tabs w → Calls Tryz.prog 105 #[.int .i64 (r - t), .func (.func 106) #[.pointer (some ⟨B, 0, none⟩)] #[]] w fun e w' => e = .returned (.tuple #[]) ∧ Three B t P Q w' ∧ Below B w w')
    (w : World) (hT : Tabs w) :
    Calls Tryz.prog 77 #[.agg #[.int .i64 r, .int .i64 a, .int .i64 b], .int .i64 t] w fun e w' => e = .returned (.agg #[.int .i64 t, .int .i64 P, .int .i64 Q]) ∧ Below w.heap.size w w' := by
  replace RE : Hid _ := RE
  have hT0 : Hid (Tabs w) := hT
  obtain ⟨g0, g1⟩ := hT.lt
  clear hT
  go_enter Tryz.func77, Tryz.ntmps77
  go_wp2_with fail
  refine (RE.out _ _ ?_ ?_ ?_ ?_).mono ?_
  · exact ⟨by go_simp, by go_simp, by go_simp, by go_simp, by go_simp, by go_simp⟩
  · first | omega | (simp; done) | (simp; omega)
  · first | omega | (simp; done) | (simp; omega)
  · exact hT0.out.below (by go_grown)
  rintro e w1 ⟨rfl, ⟨x0, x1, x2, -, -, -⟩, hb⟩
  have r0 : w1.cell? ⟨w.heap.size + 1, 0, none⟩ = some (.int .i64 0) := (hb.cell (p := ⟨w.heap.size + 1, 0, none⟩) (by simp)).trans (by go_simp)
  have r1 : w1.cell? ⟨w.heap.size + 1, 1, none⟩ = some (.int .i64 0) := (hb.cell (p := ⟨w.heap.size + 1, 1, none⟩) (by simp)).trans (by go_simp)
  have r2 : w1.cell? ⟨w.heap.size + 1, 2, none⟩ = some (.int .i64 0) := (hb.cell (p := ⟨w.heap.size + 1, 2, none⟩) (by simp)).trans (by go_simp)
  have f0 : w1.frozen? ⟨w.heap.size + 1, 0, none⟩ = false := (hb.frozen (p := ⟨w.heap.size + 1, 0, none⟩) (by simp)).trans (by go_simp)
  have f1 : w1.frozen? ⟨w.heap.size + 1, 1, none⟩ = false := (hb.frozen (p := ⟨w.heap.size + 1, 1, none⟩) (by simp)).trans (by go_simp)
  have f2 : w1.frozen? ⟨w.heap.size + 1, 2, none⟩ = false := (hb.frozen (p := ⟨w.heap.size + 1, 2, none⟩) (by simp)).trans (by go_simp)
  have hB : Below w.heap.size w w1 := Below.trans (by go_grown) (hb.mono (by omega))
  obtain ⟨e0, e1, e2⟩ := three_stores (u0 := .int .i64 t) (u1 := .int .i64 P) (u2 := .int .i64 Q) r0 r1 r2
  clear hb RE hT0
  go_wp2
  exact bodyPost_ret (v := .agg #[.int .i64 t, .int .i64 P, .int .i64 Q]) (by simp [results, Tryz.results77, go_sem, e0, e1, e2]) rfl ⟨rfl, ((hB.setCell (by simp) _).setCell (by simp) _).setCell (by simp) _⟩
/-- RAISED: what is above a cell. -/
theorem craised_any (r a b t : Int) (n : Nat) (hn : r - t = (n : Int)) (t0 : 0 ≤ t) (r2 : r ≤ 12) (ha : In30c a) (hb : In30c b) (w : World) (hT : Tabs w) :
    Calls Tryz.prog 77 #[.agg #[.int .i64 r, .int .i64 a, .int .i64 b], .int .i64 t] w fun e w' => e = .returned (.agg #[.int .i64 t, .int .i64 (ups n a b).1, .int .i64 (ups n a b).2]) ∧ Below w.heap.size w w' := by
  refine craised_core r a b t _ _ t0 (by omega) r2 (fun B w h g0 g1 hT => ?_) w hT
  have := crepeat_any B n r a b (by omega) (by omega) r2 ha hb w h g0 g1 hT
  rwa [← hn, show r - (r - t) = t by omega] at this

set_option maxHeartbeats 2000000 in
theorem cok_core (r a b P Q : Int) (v : Bool) (r1 : 0 ≤ r) (r2 : r ≤ 12) (a1 : -1073741824 ≤ a) (a2 : a ≤ 1073741824) (b1 : -1073741824 ≤ b) (b2 : b ≤ 1073741824)
    (RA : ∀ w, Tabs w → Calls Tryz.prog 77 #[.agg #[.int .i64 r, .int .i64 a, .int .i64 b], .int .i64 0] w fun e w' => e = .returned (.agg #[.int .i64 0, .int .i64 P, .int .i64 Q]) ∧ Below w.heap.size w w')
    (pv qv : Bool) (IP : ∀ w, Calls Tryz.prog 78 #[.int .i64 P] w fun e w' => e = .returned (.bool pv) ∧ w' = w)
    (IQ : ∀ w, Calls Tryz.prog 78 #[.int .i64 Q] w fun e w' => e = .returned (.bool qv) ∧ w' = w) (hv : (pv && qv) = v) (w : World) (hT : Tabs w) :
    Calls Tryz.prog 53 #[.agg #[.int .i64 r, .int .i64 a, .int .i64 b]] w fun e w' => e = .returned (.bool v) ∧ Below w.heap.size w w' := by
  have SZ : Hid (∀ w, Calls Tryz.prog 75 #[.int .i64 r] w fun e w' => e = .returned (.bool true) ∧ w' = w) := csize_yes r r1 r2
  have PA : Hid (∀ w, Calls Tryz.prog 76 #[.int .i64 a] w fun e w' => e = .returned (.bool true) ∧ w' = w) := cispart_yes a a1 a2
  have PB : Hid (∀ w, Calls Tryz.prog 76 #[.int .i64 b] w fun e w' => e = .returned (.bool true) ∧ w' = w) := cispart_yes b b1 b2
  replace RA : Hid _ := RA
  replace IP : Hid _ := IP
  replace IQ : Hid _ := IQ
  have hT0 : Hid (Tabs w) := hT
  clear hT
  subst hv
  cases pv
  all_goals
    go_enter Tryz.func53, Tryz.ntmps53
    go_wp2_with fail
    refine (SZ.out _).mono ?_
    rintro e v1 ⟨rfl, rfl⟩
    go_wp2_with fail
    refine (PA.out _).mono ?_
    rintro e v1 ⟨rfl, rfl⟩
    go_wp2_with fail
    refine (PB.out _).mono ?_
    rintro e v1 ⟨rfl, rfl⟩
    go_wp2_with fail
    refine (RA.out _ ?_).mono ?_
    · exact hT0.out.below (by go_grown)
    rintro e w1 ⟨rfl, d1⟩
    have c1 : Below w.heap.size w w1 := Below.trans (by go_grown) (d1.mono (by simp; try omega))
    have hB := c1
    clear c1 d1
    go_wp2_with fail
    refine (IP.out _).mono ?_
    rintro e v1 ⟨rfl, rfl⟩
    (try (go_wp2_with fail
          refine (IQ.out _).mono ?_
          rintro e v1 ⟨rfl, rfl⟩))
    go_wp2
    go_ret
    exact ⟨by simp, hB.alloc (by have := hB.size; omega) _⟩

set_option maxHeartbeats 1000000 in
theorem cok_size (r a b : Int) (h : ¬ (0 ≤ r ∧ r ≤ 12)) (w : World) :
    Calls Tryz.prog 53 #[.agg #[.int .i64 r, .int .i64 a, .int .i64 b]] w fun e w' => e = .returned (.bool false) ∧ Below w.heap.size w w' := by
  have SZ : Hid (∀ w, Calls Tryz.prog 75 #[.int .i64 r] w fun e w' => e = .returned (.bool false) ∧ w' = w) := csize_no r h
  clear h
  go_enter Tryz.func53, Tryz.ntmps53
  go_wp2_with fail
  refine (SZ.out _).mono ?_
  rintro e v1 ⟨rfl, rfl⟩
  go_wp2
  go_ret
  exact ⟨rfl, by go_grown⟩
set_option maxHeartbeats 1000000 in
theorem cok_partA (r a b : Int) (r1 : 0 ≤ r) (r2 : r ≤ 12) (h : ¬ In30c a) (w : World) :
    Calls Tryz.prog 53 #[.agg #[.int .i64 r, .int .i64 a, .int .i64 b]] w fun e w' => e = .returned (.bool false) ∧ Below w.heap.size w w' := by
  have SZ : Hid (∀ w, Calls Tryz.prog 75 #[.int .i64 r] w fun e w' => e = .returned (.bool true) ∧ w' = w) := csize_yes r r1 r2
  have PA : Hid (∀ w, Calls Tryz.prog 76 #[.int .i64 a] w fun e w' => e = .returned (.bool false) ∧ w' = w) := cispart_no a h
  clear h
  go_enter Tryz.func53, Tryz.ntmps53
  go_wp2_with fail
  refine (SZ.out _).mono ?_
  rintro e v1 ⟨rfl, rfl⟩
  go_wp2_with fail
  refine (PA.out _).mono ?_
  rintro e v1 ⟨rfl, rfl⟩
  go_wp2
  go_ret
  exact ⟨rfl, by go_grown⟩
set_option maxHeartbeats 1000000 in
theorem cok_partB (r a b : Int) (r1 : 0 ≤ r) (r2 : r ≤ 12) (ha : In30c a) (h : ¬ In30c b) (w : World) :
    Calls Tryz.prog 53 #[.agg #[.int .i64 r, .int .i64 a, .int .i64 b]] w fun e w' => e = .returned (.bool false) ∧ Below w.heap.size w w' := by
  have SZ : Hid (∀ w, Calls Tryz.prog 75 #[.int .i64 r] w fun e w' => e = .returned (.bool true) ∧ w' = w) := csize_yes r r1 r2
  have PA : Hid (∀ w, Calls Tryz.prog 76 #[.int .i64 a] w fun e w' => e = .returned (.bool true) ∧ w' = w) := cispart_yes a ha.1 ha.2
  have PB : Hid (∀ w, Calls Tryz.prog 76 #[.int .i64 b] w fun e w' => e = .returned (.bool false) ∧ w' = w) := cispart_no b h
  clear h
  go_enter Tryz.func53, Tryz.ntmps53
  go_wp2_with fail
  refine (SZ.out _).mono ?_
  rintro e v1 ⟨rfl, rfl⟩
  go_wp2_with fail
  refine (PA.out _).mono ?_
  rintro e v1 ⟨rfl, rfl⟩
  go_wp2_with fail
  refine (PB.out _).mono ?_
  rintro e v1 ⟨rfl, rfl⟩
  go_wp2
  go_ret
  exact ⟨rfl, by go_grown⟩
theorem cisbase_see (n : Int) : ∃ v : Bool, v = decide (-512 ≤ n ∧ n ≤ 511) ∧ ∀ w, Calls Tryz.prog 78 #[.int .i64 n] w fun e w' => e = .returned (.bool v) ∧ w' = w := by
  by_cases h : -512 ≤ n ∧ n ≤ 511
  · exact ⟨true, (decide_eq_true h).symm, cisbase_yes n h.1 h.2⟩
  · exact ⟨false, (decide_eq_false h).symm, cisbase_no n h⟩
/-- OK: whether a cell may be. -/
theorem cok_any (r a b : Int) (w : World) (hT : Tabs w) :
    Calls Tryz.prog 53 #[.agg #[.int .i64 r, .int .i64 a, .int .i64 b]] w fun e w' => e = .returned (.bool (ok4B r a b)) ∧ Below w.heap.size w w' := by
  by_cases hr : 0 ≤ r ∧ r ≤ 12
  · by_cases ha : In30c a
    · by_cases hb : In30c b
      · obtain ⟨pv, hp, IP⟩ := cisbase_see (ups r.toNat a b).1
        obtain ⟨qv, hq, IQ⟩ := cisbase_see (ups r.toNat a b).2
        refine cok_core r a b _ _ (ok4B r a b) hr.1 hr.2 ha.1 ha.2 hb.1 hb.2 (craised_any r a b 0 r.toNat (by omega) (by omega) hr.2 ha hb) pv qv IP IQ ?_ w hT
        rw [hp, hq]
        unfold ok4B
        unfold In30c at ha hb
        rw [← Bool.decide_and]
        congr 1
        apply propext
        constructor
        · intro h; exact ⟨hr.1, hr.2, ha, hb, h.1, h.2⟩
        · intro h; exact ⟨h.2.2.2.2.1, h.2.2.2.2.2⟩
      · rw [ok4_no fun h => hb h.2.2.2.1]; exact cok_partB r a b hr.1 hr.2 ha hb w
    · rw [ok4_no fun h => ha h.2.2.1]; exact cok_partA r a b hr.1 hr.2 ha w
  · rw [ok4_no fun h => hr ⟨h.1, h.2.1⟩]; exact cok_size r a b hr w
theorem cok_yes (r a b : Int) (h : Ok4 r a b) (w : World) (hT : Tabs w) :
    Calls Tryz.prog 53 #[.agg #[.int .i64 r, .int .i64 a, .int .i64 b]] w fun e w' => e = .returned (.bool true) ∧ Below w.heap.size w w' := by
  have := cok_any r a b w hT
  rwa [ok4_mk h] at this
theorem cok_no (r a b : Int) (h : ¬ Ok4 r a b) (w : World) (hT : Tabs w) :
    Calls Tryz.prog 53 #[.agg #[.int .i64 r, .int .i64 a, .int .i64 b]] w fun e w' => e = .returned (.bool false) ∧ Below w.heap.size w w' := by
  have := cok_any r a b w hT
  rwa [ok4_no h] at this
end Go.Proofs.YtlipbdiijjfheaaGreatDoor
