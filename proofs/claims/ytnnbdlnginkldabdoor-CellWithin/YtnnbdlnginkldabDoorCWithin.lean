/-
  What package cell's Within tells, and the document's own, of any two cells: in whatever memory where the tables of Units and of digits hold what their texts lay.
-/
import Derived.Test.YtnnbdlnginkldabDoorRCell
import Derived.Test.YtnnbdlnginkldabDoorCCell
import Derived.Test.YtnnbdlnginkldabDoorCWithinNo
namespace Go.Proofs.YtnnbdlnginkldabDoor
open Go.RowKit

/-- Whether a cell is another one, or belongs to it. -/
def Within4 (r a b t p q : Int) : Prop := Ok4 r a b ∧ Ok4 t p q ∧ t ≤ r ∧ (ups (r - t).toNat a b).1 = p ∧ (ups (r - t).toNat a b).2 = q
def withB (r a b t p q : Int) : Bool := ok4B r a b && (ok4B t p q && (decide (t ≤ r) && (decide ((ups (r - t).toNat a b).1 = p) && decide ((ups (r - t).toNat a b).2 = q))))
theorem withB_mk {r a b t p q : Int} (h : Within4 r a b t p q) : withB r a b t p q = true := by
  unfold withB
  rw [ok4_mk h.1, ok4_mk h.2.1, decide_eq_true h.2.2.1, decide_eq_true h.2.2.2.1, decide_eq_true h.2.2.2.2]; rfl
theorem withB_no {r a b t p q : Int} (h : ¬ Within4 r a b t p q) : withB r a b t p q = false := by
  cases hw : withB r a b t p q with
  | false => rfl
  | true =>
    unfold withB at hw
    simp only [Bool.and_eq_true, decide_eq_true_eq] at hw
    exact absurd ⟨ok4_of hw.1, ok4_of hw.2.1, hw.2.2.1, hw.2.2.2.1, hw.2.2.2.2⟩ h
theorem keepSix3 {w0 a b : World} {p0 p1 p2 p3 p4 p5 : Addr} {v0 v1 v2 v3 v4 v5 : Value} (hb : Below a.heap.size a b) (h : a.cell? p0 = some v0 ∧ a.cell? p1 = some v1 ∧ a.cell? p2 = some v2 ∧ a.cell? p3 = some v3 ∧ a.cell? p4 = some v4 ∧ a.cell? p5 = some v5 ∧ Below w0.heap.size w0 a) : b.cell? p0 = some v0 ∧ b.cell? p1 = some v1 ∧ b.cell? p2 = some v2 ∧ b.cell? p3 = some v3 ∧ b.cell? p4 = some v4 ∧ b.cell? p5 = some v5 ∧ Below w0.heap.size w0 b :=
  ⟨keepCell hb h.1, keepCell hb h.2.1, keepCell hb h.2.2.1, keepCell hb h.2.2.2.1, keepCell hb h.2.2.2.2.1, keepCell hb h.2.2.2.2.2.1, belowT h.2.2.2.2.2.2 hb⟩

set_option maxHeartbeats 4000000 in
theorem cwithin_yes (r a b t p q P Q : Int) (hl : t ≤ r) (hP : P = p) (hQ : Q = q)
    (O1 : ∀ w, Tabs w → Calls Tryd.prog 20 #[.agg #[.int .i64 r, .int .i64 a, .int .i64 b]] w fun e w' => e = .returned (.bool true) ∧ Below w.heap.size w w')
    (O2 : ∀ w, Tabs w → Calls Tryd.prog 20 #[.agg #[.int .i64 t, .int .i64 p, .int .i64 q]] w fun e w' => e = .returned (.bool true) ∧ Below w.heap.size w w')
    (RA : ∀ w, Tabs w → Calls Tryd.prog 21 #[.agg #[.int .i64 r, .int .i64 a, .int .i64 b], .int .i64 t] w fun e w' => e = .returned (.agg #[.int .i64 t, .int .i64 P, .int .i64 Q]) ∧ Below w.heap.size w w')
    (w : World) (hT : Tabs w) :
    Calls Tryd.prog 7 #[.agg #[.int .i64 r, .int .i64 a, .int .i64 b], .agg #[.int .i64 t, .int .i64 p, .int .i64 q]] w fun e w' => e = .returned (.bool true) ∧ Below w.heap.size w w' := by
  subst hP hQ
  replace O1 : Hid _ := O1
  replace O2 : Hid _ := O2
  replace RA : Hid _ := RA
  have hS0 : ((w.alloc (.cells #[.int .i64 r, .int .i64 a, .int .i64 b] 25)).alloc (.cells #[.int .i64 t, .int .i64 P, .int .i64 Q] 25)).drew.cell? ⟨w.heap.size, 0, none⟩ = some (.int .i64 r) ∧ ((w.alloc (.cells #[.int .i64 r, .int .i64 a, .int .i64 b] 25)).alloc (.cells #[.int .i64 t, .int .i64 P, .int .i64 Q] 25)).drew.cell? ⟨w.heap.size, 1, none⟩ = some (.int .i64 a) ∧ ((w.alloc (.cells #[.int .i64 r, .int .i64 a, .int .i64 b] 25)).alloc (.cells #[.int .i64 t, .int .i64 P, .int .i64 Q] 25)).drew.cell? ⟨w.heap.size, 2, none⟩ = some (.int .i64 b) ∧ ((w.alloc (.cells #[.int .i64 r, .int .i64 a, .int .i64 b] 25)).alloc (.cells #[.int .i64 t, .int .i64 P, .int .i64 Q] 25)).drew.cell? ⟨w.heap.size + 1, 0, none⟩ = some (.int .i64 t) ∧ ((w.alloc (.cells #[.int .i64 r, .int .i64 a, .int .i64 b] 25)).alloc (.cells #[.int .i64 t, .int .i64 P, .int .i64 Q] 25)).drew.cell? ⟨w.heap.size + 1, 1, none⟩ = some (.int .i64 P) ∧ ((w.alloc (.cells #[.int .i64 r, .int .i64 a, .int .i64 b] 25)).alloc (.cells #[.int .i64 t, .int .i64 P, .int .i64 Q] 25)).drew.cell? ⟨w.heap.size + 1, 2, none⟩ = some (.int .i64 Q) ∧ Below w.heap.size w ((w.alloc (.cells #[.int .i64 r, .int .i64 a, .int .i64 b] 25)).alloc (.cells #[.int .i64 t, .int .i64 P, .int .i64 Q] 25)).drew := ⟨by go_simp, by go_simp, by go_simp, by go_simp, by go_simp, by go_simp, by go_grown⟩
  have hTS : Hid (∀ wx, (wx.cell? ⟨w.heap.size, 0, none⟩ = some (.int .i64 r) ∧ wx.cell? ⟨w.heap.size, 1, none⟩ = some (.int .i64 a) ∧ wx.cell? ⟨w.heap.size, 2, none⟩ = some (.int .i64 b) ∧ wx.cell? ⟨w.heap.size + 1, 0, none⟩ = some (.int .i64 t) ∧ wx.cell? ⟨w.heap.size + 1, 1, none⟩ = some (.int .i64 P) ∧ wx.cell? ⟨w.heap.size + 1, 2, none⟩ = some (.int .i64 Q) ∧ Below w.heap.size w wx) → Tabs wx) := fun wx h => hT.below h.2.2.2.2.2.2
  clear hT
  go_enter Tryd.func7, Tryd.ntmps7
  go_wp2_with fail
  have hd : decide (t ≤ r) = true := decide_eq_true hl
  go_region_held3 (fun w' => w'.cell? ⟨w.heap.size, 0, none⟩ = some (.int .i64 r) ∧ w'.cell? ⟨w.heap.size, 1, none⟩ = some (.int .i64 a) ∧ w'.cell? ⟨w.heap.size, 2, none⟩ = some (.int .i64 b) ∧ w'.cell? ⟨w.heap.size + 1, 0, none⟩ = some (.int .i64 t) ∧ w'.cell? ⟨w.heap.size + 1, 1, none⟩ = some (.int .i64 P) ∧ w'.cell? ⟨w.heap.size + 1, 2, none⟩ = some (.int .i64 Q) ∧ Below w.heap.size w w') (first | exact hS0 | exact keepSix3 hb (by assumption))
    (first | (go_at_call 20; (first | with_reducible refine (O1.out _ (hTS.out _ (by assumption))).mono ?_ | with_reducible refine (O2.out _ (hTS.out _ (by assumption))).mono ?_); rintro e w' ⟨rfl, hb⟩) | (go_at_call 21; refine (RA.out _ (hTS.out _ (by assumption))).mono ?_; rintro e w' ⟨rfl, hb⟩))
  all_goals
    rename_i hS
    have hW := hS.2.2.2.2.2.2
    clear hS hS0
    go_wp2
    go_ret
    exact ⟨rfl, hW⟩

set_option maxHeartbeats 4000000 in
theorem cwithin_first (r a b t p q P Q : Int) (hl : t ≤ r) (hP : (P == p) = false)
    (O1 : ∀ w, Tabs w → Calls Tryd.prog 20 #[.agg #[.int .i64 r, .int .i64 a, .int .i64 b]] w fun e w' => e = .returned (.bool true) ∧ Below w.heap.size w w')
    (O2 : ∀ w, Tabs w → Calls Tryd.prog 20 #[.agg #[.int .i64 t, .int .i64 p, .int .i64 q]] w fun e w' => e = .returned (.bool true) ∧ Below w.heap.size w w')
    (RA : ∀ w, Tabs w → Calls Tryd.prog 21 #[.agg #[.int .i64 r, .int .i64 a, .int .i64 b], .int .i64 t] w fun e w' => e = .returned (.agg #[.int .i64 t, .int .i64 P, .int .i64 Q]) ∧ Below w.heap.size w w')
    (w : World) (hT : Tabs w) :
    Calls Tryd.prog 7 #[.agg #[.int .i64 r, .int .i64 a, .int .i64 b], .agg #[.int .i64 t, .int .i64 p, .int .i64 q]] w fun e w' => e = .returned (.bool false) ∧ Below w.heap.size w w' := by
  replace O1 : Hid _ := O1
  replace O2 : Hid _ := O2
  replace RA : Hid _ := RA
  have hS0 : ((w.alloc (.cells #[.int .i64 r, .int .i64 a, .int .i64 b] 25)).alloc (.cells #[.int .i64 t, .int .i64 p, .int .i64 q] 25)).drew.cell? ⟨w.heap.size, 0, none⟩ = some (.int .i64 r) ∧ ((w.alloc (.cells #[.int .i64 r, .int .i64 a, .int .i64 b] 25)).alloc (.cells #[.int .i64 t, .int .i64 p, .int .i64 q] 25)).drew.cell? ⟨w.heap.size, 1, none⟩ = some (.int .i64 a) ∧ ((w.alloc (.cells #[.int .i64 r, .int .i64 a, .int .i64 b] 25)).alloc (.cells #[.int .i64 t, .int .i64 p, .int .i64 q] 25)).drew.cell? ⟨w.heap.size, 2, none⟩ = some (.int .i64 b) ∧ ((w.alloc (.cells #[.int .i64 r, .int .i64 a, .int .i64 b] 25)).alloc (.cells #[.int .i64 t, .int .i64 p, .int .i64 q] 25)).drew.cell? ⟨w.heap.size + 1, 0, none⟩ = some (.int .i64 t) ∧ ((w.alloc (.cells #[.int .i64 r, .int .i64 a, .int .i64 b] 25)).alloc (.cells #[.int .i64 t, .int .i64 p, .int .i64 q] 25)).drew.cell? ⟨w.heap.size + 1, 1, none⟩ = some (.int .i64 p) ∧ ((w.alloc (.cells #[.int .i64 r, .int .i64 a, .int .i64 b] 25)).alloc (.cells #[.int .i64 t, .int .i64 p, .int .i64 q] 25)).drew.cell? ⟨w.heap.size + 1, 2, none⟩ = some (.int .i64 q) ∧ Below w.heap.size w ((w.alloc (.cells #[.int .i64 r, .int .i64 a, .int .i64 b] 25)).alloc (.cells #[.int .i64 t, .int .i64 p, .int .i64 q] 25)).drew := ⟨by go_simp, by go_simp, by go_simp, by go_simp, by go_simp, by go_simp, by go_grown⟩
  have hTS : Hid (∀ wx, (wx.cell? ⟨w.heap.size, 0, none⟩ = some (.int .i64 r) ∧ wx.cell? ⟨w.heap.size, 1, none⟩ = some (.int .i64 a) ∧ wx.cell? ⟨w.heap.size, 2, none⟩ = some (.int .i64 b) ∧ wx.cell? ⟨w.heap.size + 1, 0, none⟩ = some (.int .i64 t) ∧ wx.cell? ⟨w.heap.size + 1, 1, none⟩ = some (.int .i64 p) ∧ wx.cell? ⟨w.heap.size + 1, 2, none⟩ = some (.int .i64 q) ∧ Below w.heap.size w wx) → Tabs wx) := fun wx h => hT.below h.2.2.2.2.2.2
  clear hT
  go_enter Tryd.func7, Tryd.ntmps7
  go_wp2_with fail
  have hd : decide (t ≤ r) = true := decide_eq_true hl
  go_region_held3 (fun w' => w'.cell? ⟨w.heap.size, 0, none⟩ = some (.int .i64 r) ∧ w'.cell? ⟨w.heap.size, 1, none⟩ = some (.int .i64 a) ∧ w'.cell? ⟨w.heap.size, 2, none⟩ = some (.int .i64 b) ∧ w'.cell? ⟨w.heap.size + 1, 0, none⟩ = some (.int .i64 t) ∧ w'.cell? ⟨w.heap.size + 1, 1, none⟩ = some (.int .i64 p) ∧ w'.cell? ⟨w.heap.size + 1, 2, none⟩ = some (.int .i64 q) ∧ Below w.heap.size w w') (first | exact hS0 | exact keepSix3 hb (by assumption))
    (first | (go_at_call 20; (first | with_reducible refine (O1.out _ (hTS.out _ (by assumption))).mono ?_ | with_reducible refine (O2.out _ (hTS.out _ (by assumption))).mono ?_); rintro e w' ⟨rfl, hb⟩) | (go_at_call 21; refine (RA.out _ (hTS.out _ (by assumption))).mono ?_; rintro e w' ⟨rfl, hb⟩))
  all_goals
    rename_i hS
    have hW := hS.2.2.2.2.2.2
    clear hS hS0
    go_wp2
    go_ret
    exact ⟨rfl, hW⟩

set_option maxHeartbeats 4000000 in
theorem cwithin_second (r a b t p q P Q : Int) (hl : t ≤ r) (hP : P = p) (hQ : (Q == q) = false)
    (O1 : ∀ w, Tabs w → Calls Tryd.prog 20 #[.agg #[.int .i64 r, .int .i64 a, .int .i64 b]] w fun e w' => e = .returned (.bool true) ∧ Below w.heap.size w w')
    (O2 : ∀ w, Tabs w → Calls Tryd.prog 20 #[.agg #[.int .i64 t, .int .i64 p, .int .i64 q]] w fun e w' => e = .returned (.bool true) ∧ Below w.heap.size w w')
    (RA : ∀ w, Tabs w → Calls Tryd.prog 21 #[.agg #[.int .i64 r, .int .i64 a, .int .i64 b], .int .i64 t] w fun e w' => e = .returned (.agg #[.int .i64 t, .int .i64 P, .int .i64 Q]) ∧ Below w.heap.size w w')
    (w : World) (hT : Tabs w) :
    Calls Tryd.prog 7 #[.agg #[.int .i64 r, .int .i64 a, .int .i64 b], .agg #[.int .i64 t, .int .i64 p, .int .i64 q]] w fun e w' => e = .returned (.bool false) ∧ Below w.heap.size w w' := by
  subst hP
  replace O1 : Hid _ := O1
  replace O2 : Hid _ := O2
  replace RA : Hid _ := RA
  have hS0 : ((w.alloc (.cells #[.int .i64 r, .int .i64 a, .int .i64 b] 25)).alloc (.cells #[.int .i64 t, .int .i64 P, .int .i64 q] 25)).drew.cell? ⟨w.heap.size, 0, none⟩ = some (.int .i64 r) ∧ ((w.alloc (.cells #[.int .i64 r, .int .i64 a, .int .i64 b] 25)).alloc (.cells #[.int .i64 t, .int .i64 P, .int .i64 q] 25)).drew.cell? ⟨w.heap.size, 1, none⟩ = some (.int .i64 a) ∧ ((w.alloc (.cells #[.int .i64 r, .int .i64 a, .int .i64 b] 25)).alloc (.cells #[.int .i64 t, .int .i64 P, .int .i64 q] 25)).drew.cell? ⟨w.heap.size, 2, none⟩ = some (.int .i64 b) ∧ ((w.alloc (.cells #[.int .i64 r, .int .i64 a, .int .i64 b] 25)).alloc (.cells #[.int .i64 t, .int .i64 P, .int .i64 q] 25)).drew.cell? ⟨w.heap.size + 1, 0, none⟩ = some (.int .i64 t) ∧ ((w.alloc (.cells #[.int .i64 r, .int .i64 a, .int .i64 b] 25)).alloc (.cells #[.int .i64 t, .int .i64 P, .int .i64 q] 25)).drew.cell? ⟨w.heap.size + 1, 1, none⟩ = some (.int .i64 P) ∧ ((w.alloc (.cells #[.int .i64 r, .int .i64 a, .int .i64 b] 25)).alloc (.cells #[.int .i64 t, .int .i64 P, .int .i64 q] 25)).drew.cell? ⟨w.heap.size + 1, 2, none⟩ = some (.int .i64 q) ∧ Below w.heap.size w ((w.alloc (.cells #[.int .i64 r, .int .i64 a, .int .i64 b] 25)).alloc (.cells #[.int .i64 t, .int .i64 P, .int .i64 q] 25)).drew := ⟨by go_simp, by go_simp, by go_simp, by go_simp, by go_simp, by go_simp, by go_grown⟩
  have hTS : Hid (∀ wx, (wx.cell? ⟨w.heap.size, 0, none⟩ = some (.int .i64 r) ∧ wx.cell? ⟨w.heap.size, 1, none⟩ = some (.int .i64 a) ∧ wx.cell? ⟨w.heap.size, 2, none⟩ = some (.int .i64 b) ∧ wx.cell? ⟨w.heap.size + 1, 0, none⟩ = some (.int .i64 t) ∧ wx.cell? ⟨w.heap.size + 1, 1, none⟩ = some (.int .i64 P) ∧ wx.cell? ⟨w.heap.size + 1, 2, none⟩ = some (.int .i64 q) ∧ Below w.heap.size w wx) → Tabs wx) := fun wx h => hT.below h.2.2.2.2.2.2
  clear hT
  go_enter Tryd.func7, Tryd.ntmps7
  go_wp2_with fail
  have hd : decide (t ≤ r) = true := decide_eq_true hl
  go_region_held3 (fun w' => w'.cell? ⟨w.heap.size, 0, none⟩ = some (.int .i64 r) ∧ w'.cell? ⟨w.heap.size, 1, none⟩ = some (.int .i64 a) ∧ w'.cell? ⟨w.heap.size, 2, none⟩ = some (.int .i64 b) ∧ w'.cell? ⟨w.heap.size + 1, 0, none⟩ = some (.int .i64 t) ∧ w'.cell? ⟨w.heap.size + 1, 1, none⟩ = some (.int .i64 P) ∧ w'.cell? ⟨w.heap.size + 1, 2, none⟩ = some (.int .i64 q) ∧ Below w.heap.size w w') (first | exact hS0 | exact keepSix3 hb (by assumption))
    (first | (go_at_call 20; (first | with_reducible refine (O1.out _ (hTS.out _ (by assumption))).mono ?_ | with_reducible refine (O2.out _ (hTS.out _ (by assumption))).mono ?_); rintro e w' ⟨rfl, hb⟩) | (go_at_call 21; refine (RA.out _ (hTS.out _ (by assumption))).mono ?_; rintro e w' ⟨rfl, hb⟩))
  all_goals
    rename_i hS
    have hW := hS.2.2.2.2.2.2
    clear hS hS0
    go_wp2
    go_ret
    exact ⟨rfl, hW⟩

/-- WITHIN: whether a cell is another one, or belongs to it. -/
theorem cwithin_any (r a b t p q : Int) (w : World) (hT : Tabs w) :
    Calls Tryd.prog 7 #[.agg #[.int .i64 r, .int .i64 a, .int .i64 b], .agg #[.int .i64 t, .int .i64 p, .int .i64 q]] w fun e w' => e = .returned (.bool (withB r a b t p q)) ∧ Below w.heap.size w w' := by
  by_cases h1 : Ok4 r a b
  · by_cases h2 : Ok4 t p q
    · by_cases h3 : t ≤ r
      · have O1 := cok_yes r a b h1
        have O2 := cok_yes t p q h2
        have RA := craised_any r a b t (r - t).toNat (by omega) h2.1 h1.2.1 h1.2.2.1 h1.2.2.2.1
        by_cases h4 : (ups (r - t).toNat a b).1 = p
        · by_cases h5 : (ups (r - t).toNat a b).2 = q
          · rw [withB_mk ⟨h1, h2, h3, h4, h5⟩]; exact cwithin_yes r a b t p q _ _ h3 h4 h5 O1 O2 RA w hT
          · rw [withB_no fun h => h5 h.2.2.2.2]; exact cwithin_second r a b t p q _ _ h3 h4 (by simpa using h5) O1 O2 RA w hT
        · rw [withB_no fun h => h4 h.2.2.2.1]; exact cwithin_first r a b t p q _ _ h3 (by simpa using h4) O1 O2 RA w hT
      · rw [withB_no fun h => h3 h.2.2.1]
        exact (cwithin_finer r a b t p q (df h3) (cok_yes r a b h1) (cok_yes t p q h2) w hT)
    · rw [withB_no fun h => h2 h.2.1]; exact cwithin_bad2 r a b t p q (cok_yes r a b h1) (cok_no t p q h2) w hT
  · rw [withB_no fun h => h1 h.1]; exact cwithin_bad1 r a b t p q (cok_no r a b h1) w hT

set_option maxHeartbeats 2000000 in
theorem rwithin_bad1 (r a b t p q : Int) (h : ¬ Ok4 r a b) (w : World) :
    Calls Tryd.prog 8 #[.agg #[.int .i64 r, .int .i64 a, .int .i64 b], .agg #[.int .i64 t, .int .i64 p, .int .i64 q]] w fun e w' => e = .returned (.bool false) ∧ Below w.heap.size w w' := by
  have O1 : Hid (∀ w, Calls Tryd.prog 22 #[.agg #[.int .i64 r, .int .i64 a, .int .i64 b]] w fun e w' => e = .returned (.bool false) ∧ Below w.heap.size w w') := fun w => by rw [← ok4_no h]; exact rok_any _ _ _ w
  clear h
  go_enter Tryd.func8, Tryd.ntmps8
  go_wp2_with fail
  refine (O1.out _).mono ?_
  rintro e w1 ⟨rfl, d1⟩
  have c1 : Below w.heap.size w w1 := Below.trans (by go_grown) (d1.mono (by simp; try omega))
  have hB := c1
  clear c1 d1
  go_wp2
  go_ret
  exact ⟨rfl, hB⟩

set_option maxHeartbeats 2000000 in
theorem rwithin_bad2 (r a b t p q : Int) (h1 : Ok4 r a b) (h : ¬ Ok4 t p q) (w : World) :
    Calls Tryd.prog 8 #[.agg #[.int .i64 r, .int .i64 a, .int .i64 b], .agg #[.int .i64 t, .int .i64 p, .int .i64 q]] w fun e w' => e = .returned (.bool false) ∧ Below w.heap.size w w' := by
  have O1 : Hid (∀ w, Calls Tryd.prog 22 #[.agg #[.int .i64 r, .int .i64 a, .int .i64 b]] w fun e w' => e = .returned (.bool true) ∧ Below w.heap.size w w') := fun w => by rw [← ok4_mk h1]; exact rok_any _ _ _ w
  have O2 : Hid (∀ w, Calls Tryd.prog 22 #[.agg #[.int .i64 t, .int .i64 p, .int .i64 q]] w fun e w' => e = .returned (.bool false) ∧ Below w.heap.size w w') := fun w => by rw [← ok4_no h]; exact rok_any _ _ _ w
  clear h h1
  go_enter Tryd.func8, Tryd.ntmps8
  go_wp2_with fail
  refine (O1.out _).mono ?_
  rintro e w1 ⟨rfl, d1⟩
  have c1 : Below w.heap.size w w1 := Below.trans (by go_grown) (d1.mono (by simp; try omega))
  have z0 : w1.cell? ⟨w.heap.size, 0, none⟩ = some (.int .i64 r) := keepCell d1 (by go_simp)
  have qz0 := World.block_lt_of_cell? _ _ z0
  have z1 : w1.cell? ⟨w.heap.size, 1, none⟩ = some (.int .i64 a) := keepCell d1 (by go_simp)
  have z2 : w1.cell? ⟨w.heap.size, 2, none⟩ = some (.int .i64 b) := keepCell d1 (by go_simp)
  have y0 : w1.cell? ⟨w.heap.size + 1, 0, none⟩ = some (.int .i64 t) := keepCell d1 (by go_simp)
  have qy0 := World.block_lt_of_cell? _ _ y0
  have y1 : w1.cell? ⟨w.heap.size + 1, 1, none⟩ = some (.int .i64 p) := keepCell d1 (by go_simp)
  have y2 : w1.cell? ⟨w.heap.size + 1, 2, none⟩ = some (.int .i64 q) := keepCell d1 (by go_simp)
  have hB := c1
  clear c1 d1
  go_wp2_with fail
  refine (O2.out _).mono ?_
  rintro e w2 ⟨rfl, d2⟩
  have c2 : Below w1.heap.size w1 w2 := Below.trans (by go_grown) (d2.mono (by simp; try omega))
  replace z0 := keepCell c2 z0
  replace qz0 := World.block_lt_of_cell? _ _ z0
  replace z1 := keepCell c2 z1
  replace z2 := keepCell c2 z2
  replace y0 := keepCell c2 y0
  replace qy0 := World.block_lt_of_cell? _ _ y0
  replace y1 := keepCell c2 y1
  replace y2 := keepCell c2 y2
  replace hB := belowT hB c2
  clear c2 d2
  go_wp2
  go_ret
  exact ⟨rfl, hB⟩

set_option maxHeartbeats 2000000 in
theorem rwithin_finer (r a b t p q : Int) (h1 : Ok4 r a b) (h : Ok4 t p q) (hl : r < t) (w : World) :
    Calls Tryd.prog 8 #[.agg #[.int .i64 r, .int .i64 a, .int .i64 b], .agg #[.int .i64 t, .int .i64 p, .int .i64 q]] w fun e w' => e = .returned (.bool false) ∧ Below w.heap.size w w' := by
  have O1 : Hid (∀ w, Calls Tryd.prog 22 #[.agg #[.int .i64 r, .int .i64 a, .int .i64 b]] w fun e w' => e = .returned (.bool true) ∧ Below w.heap.size w w') := fun w => by rw [← ok4_mk h1]; exact rok_any _ _ _ w
  have O2 : Hid (∀ w, Calls Tryd.prog 22 #[.agg #[.int .i64 t, .int .i64 p, .int .i64 q]] w fun e w' => e = .returned (.bool true) ∧ Below w.heap.size w w') := fun w => by rw [← ok4_mk h]; exact rok_any _ _ _ w
  clear h h1
  go_enter Tryd.func8, Tryd.ntmps8
  go_wp2_with fail
  refine (O1.out _).mono ?_
  rintro e w1 ⟨rfl, d1⟩
  have c1 : Below w.heap.size w w1 := Below.trans (by go_grown) (d1.mono (by simp; try omega))
  have z0 : w1.cell? ⟨w.heap.size, 0, none⟩ = some (.int .i64 r) := keepCell d1 (by go_simp)
  have qz0 := World.block_lt_of_cell? _ _ z0
  have z1 : w1.cell? ⟨w.heap.size, 1, none⟩ = some (.int .i64 a) := keepCell d1 (by go_simp)
  have z2 : w1.cell? ⟨w.heap.size, 2, none⟩ = some (.int .i64 b) := keepCell d1 (by go_simp)
  have y0 : w1.cell? ⟨w.heap.size + 1, 0, none⟩ = some (.int .i64 t) := keepCell d1 (by go_simp)
  have qy0 := World.block_lt_of_cell? _ _ y0
  have y1 : w1.cell? ⟨w.heap.size + 1, 1, none⟩ = some (.int .i64 p) := keepCell d1 (by go_simp)
  have y2 : w1.cell? ⟨w.heap.size + 1, 2, none⟩ = some (.int .i64 q) := keepCell d1 (by go_simp)
  have hB := c1
  clear c1 d1
  go_wp2_with fail
  refine (O2.out _).mono ?_
  rintro e w2 ⟨rfl, d2⟩
  have c2 : Below w1.heap.size w1 w2 := Below.trans (by go_grown) (d2.mono (by simp; try omega))
  replace z0 := keepCell c2 z0
  replace qz0 := World.block_lt_of_cell? _ _ z0
  replace z1 := keepCell c2 z1
  replace z2 := keepCell c2 z2
  replace y0 := keepCell c2 y0
  replace qy0 := World.block_lt_of_cell? _ _ y0
  replace y1 := keepCell c2 y1
  replace y2 := keepCell c2 y2
  replace hB := belowT hB c2
  clear c2 d2
  go_wp2
  go_ret
  exact ⟨rfl, hB⟩

set_option maxHeartbeats 2000000 in
theorem rwithin_yes (r a b t p q : Int) (h1 : Ok4 r a b) (h : Ok4 t p q) (h3 : t ≤ r) (h4 : (ups (r - t).toNat a b).1 = p) (h5 : (ups (r - t).toNat a b).2 = q) (w : World) :
    Calls Tryd.prog 8 #[.agg #[.int .i64 r, .int .i64 a, .int .i64 b], .agg #[.int .i64 t, .int .i64 p, .int .i64 q]] w fun e w' => e = .returned (.bool true) ∧ Below w.heap.size w w' := by
  have O1 : Hid (∀ w, Calls Tryd.prog 22 #[.agg #[.int .i64 r, .int .i64 a, .int .i64 b]] w fun e w' => e = .returned (.bool true) ∧ Below w.heap.size w w') := fun w => by rw [← ok4_mk h1]; exact rok_any _ _ _ w
  have O2 : Hid (∀ w, Calls Tryd.prog 22 #[.agg #[.int .i64 t, .int .i64 p, .int .i64 q]] w fun e w' => e = .returned (.bool true) ∧ Below w.heap.size w w') := fun w => by rw [← ok4_mk h]; exact rok_any _ _ _ w
  obtain ⟨P, hP⟩ : ∃ P, (ups (r - t).toNat a b).1 = P := ⟨_, rfl⟩
  obtain ⟨Q, hQ⟩ : ∃ Q, (ups (r - t).toNat a b).2 = Q := ⟨_, rfl⟩
  have UP : Hid (∀ w, Calls Tryd.prog 23 #[.agg #[.int .i64 r, .int .i64 a, .int .i64 b], .int .i64 t] w fun e w' => e = .returned (.tuple #[.agg #[.int .i64 t, .int .i64 P, .int .i64 Q], .int .i64 0]) ∧ Below w.heap.size w w') := fun w => by
    rw [← hP, ← hQ]; exact rup_yes r a b t (r - t).toNat (by omega) h1 h.1 w
  rw [hP] at h4
  rw [hQ] at h5
  have hl : decide (r < t) = false := df (by omega)
  clear h h1 h3 hP hQ
  subst h4 h5
  go_enter Tryd.func8, Tryd.ntmps8
  go_wp2_with fail
  refine (O1.out _).mono ?_
  rintro e w1 ⟨rfl, d1⟩
  have c1 : Below w.heap.size w w1 := Below.trans (by go_grown) (d1.mono (by simp; try omega))
  have z0 : w1.cell? ⟨w.heap.size, 0, none⟩ = some (.int .i64 r) := keepCell d1 (by go_simp)
  have qz0 := World.block_lt_of_cell? _ _ z0
  have z1 : w1.cell? ⟨w.heap.size, 1, none⟩ = some (.int .i64 a) := keepCell d1 (by go_simp)
  have z2 : w1.cell? ⟨w.heap.size, 2, none⟩ = some (.int .i64 b) := keepCell d1 (by go_simp)
  have y0 : w1.cell? ⟨w.heap.size + 1, 0, none⟩ = some (.int .i64 t) := keepCell d1 (by go_simp)
  have qy0 := World.block_lt_of_cell? _ _ y0
  have y1 : w1.cell? ⟨w.heap.size + 1, 1, none⟩ = some (.int .i64 P) := keepCell d1 (by go_simp)
  have y2 : w1.cell? ⟨w.heap.size + 1, 2, none⟩ = some (.int .i64 Q) := keepCell d1 (by go_simp)
  have hB := c1
  clear c1 d1
  go_wp2_with fail
  refine (O2.out _).mono ?_
  rintro e w2 ⟨rfl, d2⟩
  have c2 : Below w1.heap.size w1 w2 := Below.trans (by go_grown) (d2.mono (by simp; try omega))
  replace z0 := keepCell c2 z0
  replace qz0 := World.block_lt_of_cell? _ _ z0
  replace z1 := keepCell c2 z1
  replace z2 := keepCell c2 z2
  replace y0 := keepCell c2 y0
  replace qy0 := World.block_lt_of_cell? _ _ y0
  replace y1 := keepCell c2 y1
  replace y2 := keepCell c2 y2
  replace hB := belowT hB c2
  clear c2 d2
  go_wp2_with fail
  refine (UP.out _).mono ?_
  rintro e w3 ⟨rfl, d3⟩
  have c3 : Below w2.heap.size w2 w3 := Below.trans (by go_grown) (d3.mono (by simp; try omega))
  replace z0 := keepCell c3 z0
  replace qz0 := World.block_lt_of_cell? _ _ z0
  replace z1 := keepCell c3 z1
  replace z2 := keepCell c3 z2
  replace y0 := keepCell c3 y0
  replace qy0 := World.block_lt_of_cell? _ _ y0
  replace y1 := keepCell c3 y1
  replace y2 := keepCell c3 y2
  replace hB := belowT hB c3
  clear c3 d3
  go_wp2
  go_ret
  exact ⟨rfl, hB.alloc (by have := hB.size; omega) _⟩

set_option maxHeartbeats 2000000 in
theorem rwithin_first (r a b t p q : Int) (h1 : Ok4 r a b) (h : Ok4 t p q) (h3 : t ≤ r) (h4 : ¬ (ups (r - t).toNat a b).1 = p) (w : World) :
    Calls Tryd.prog 8 #[.agg #[.int .i64 r, .int .i64 a, .int .i64 b], .agg #[.int .i64 t, .int .i64 p, .int .i64 q]] w fun e w' => e = .returned (.bool false) ∧ Below w.heap.size w w' := by
  have O1 : Hid (∀ w, Calls Tryd.prog 22 #[.agg #[.int .i64 r, .int .i64 a, .int .i64 b]] w fun e w' => e = .returned (.bool true) ∧ Below w.heap.size w w') := fun w => by rw [← ok4_mk h1]; exact rok_any _ _ _ w
  have O2 : Hid (∀ w, Calls Tryd.prog 22 #[.agg #[.int .i64 t, .int .i64 p, .int .i64 q]] w fun e w' => e = .returned (.bool true) ∧ Below w.heap.size w w') := fun w => by rw [← ok4_mk h]; exact rok_any _ _ _ w
  obtain ⟨P, hP⟩ : ∃ P, (ups (r - t).toNat a b).1 = P := ⟨_, rfl⟩
  obtain ⟨Q, hQ⟩ : ∃ Q, (ups (r - t).toNat a b).2 = Q := ⟨_, rfl⟩
  have UP : Hid (∀ w, Calls Tryd.prog 23 #[.agg #[.int .i64 r, .int .i64 a, .int .i64 b], .int .i64 t] w fun e w' => e = .returned (.tuple #[.agg #[.int .i64 t, .int .i64 P, .int .i64 Q], .int .i64 0]) ∧ Below w.heap.size w w') := fun w => by
    rw [← hP, ← hQ]; exact rup_yes r a b t (r - t).toNat (by omega) h1 h.1 w
  rw [hP] at h4
  have hl : decide (r < t) = false := df (by omega)
  clear h h1 h3 hP hQ
  have h4' : (P == p) = false := by simpa using h4
  clear h4
  go_enter Tryd.func8, Tryd.ntmps8
  go_wp2_with fail
  refine (O1.out _).mono ?_
  rintro e w1 ⟨rfl, d1⟩
  have c1 : Below w.heap.size w w1 := Below.trans (by go_grown) (d1.mono (by simp; try omega))
  have z0 : w1.cell? ⟨w.heap.size, 0, none⟩ = some (.int .i64 r) := keepCell d1 (by go_simp)
  have qz0 := World.block_lt_of_cell? _ _ z0
  have z1 : w1.cell? ⟨w.heap.size, 1, none⟩ = some (.int .i64 a) := keepCell d1 (by go_simp)
  have z2 : w1.cell? ⟨w.heap.size, 2, none⟩ = some (.int .i64 b) := keepCell d1 (by go_simp)
  have y0 : w1.cell? ⟨w.heap.size + 1, 0, none⟩ = some (.int .i64 t) := keepCell d1 (by go_simp)
  have qy0 := World.block_lt_of_cell? _ _ y0
  have y1 : w1.cell? ⟨w.heap.size + 1, 1, none⟩ = some (.int .i64 p) := keepCell d1 (by go_simp)
  have y2 : w1.cell? ⟨w.heap.size + 1, 2, none⟩ = some (.int .i64 q) := keepCell d1 (by go_simp)
  have hB := c1
  clear c1 d1
  go_wp2_with fail
  refine (O2.out _).mono ?_
  rintro e w2 ⟨rfl, d2⟩
  have c2 : Below w1.heap.size w1 w2 := Below.trans (by go_grown) (d2.mono (by simp; try omega))
  replace z0 := keepCell c2 z0
  replace qz0 := World.block_lt_of_cell? _ _ z0
  replace z1 := keepCell c2 z1
  replace z2 := keepCell c2 z2
  replace y0 := keepCell c2 y0
  replace qy0 := World.block_lt_of_cell? _ _ y0
  replace y1 := keepCell c2 y1
  replace y2 := keepCell c2 y2
  replace hB := belowT hB c2
  clear c2 d2
  go_wp2_with fail
  refine (UP.out _).mono ?_
  rintro e w3 ⟨rfl, d3⟩
  have c3 : Below w2.heap.size w2 w3 := Below.trans (by go_grown) (d3.mono (by simp; try omega))
  replace z0 := keepCell c3 z0
  replace qz0 := World.block_lt_of_cell? _ _ z0
  replace z1 := keepCell c3 z1
  replace z2 := keepCell c3 z2
  replace y0 := keepCell c3 y0
  replace qy0 := World.block_lt_of_cell? _ _ y0
  replace y1 := keepCell c3 y1
  replace y2 := keepCell c3 y2
  replace hB := belowT hB c3
  clear c3 d3
  go_wp2
  go_ret
  exact ⟨rfl, hB.alloc (by have := hB.size; omega) _⟩

set_option maxHeartbeats 2000000 in
theorem rwithin_second (r a b t p q : Int) (h1 : Ok4 r a b) (h : Ok4 t p q) (h3 : t ≤ r) (h4 : (ups (r - t).toNat a b).1 = p) (h5 : ¬ (ups (r - t).toNat a b).2 = q) (w : World) :
    Calls Tryd.prog 8 #[.agg #[.int .i64 r, .int .i64 a, .int .i64 b], .agg #[.int .i64 t, .int .i64 p, .int .i64 q]] w fun e w' => e = .returned (.bool false) ∧ Below w.heap.size w w' := by
  have O1 : Hid (∀ w, Calls Tryd.prog 22 #[.agg #[.int .i64 r, .int .i64 a, .int .i64 b]] w fun e w' => e = .returned (.bool true) ∧ Below w.heap.size w w') := fun w => by rw [← ok4_mk h1]; exact rok_any _ _ _ w
  have O2 : Hid (∀ w, Calls Tryd.prog 22 #[.agg #[.int .i64 t, .int .i64 p, .int .i64 q]] w fun e w' => e = .returned (.bool true) ∧ Below w.heap.size w w') := fun w => by rw [← ok4_mk h]; exact rok_any _ _ _ w
  obtain ⟨P, hP⟩ : ∃ P, (ups (r - t).toNat a b).1 = P := ⟨_, rfl⟩
  obtain ⟨Q, hQ⟩ : ∃ Q, (ups (r - t).toNat a b).2 = Q := ⟨_, rfl⟩
  have UP : Hid (∀ w, Calls Tryd.prog 23 #[.agg #[.int .i64 r, .int .i64 a, .int .i64 b], .int .i64 t] w fun e w' => e = .returned (.tuple #[.agg #[.int .i64 t, .int .i64 P, .int .i64 Q], .int .i64 0]) ∧ Below w.heap.size w w') := fun w => by
    rw [← hP, ← hQ]; exact rup_yes r a b t (r - t).toNat (by omega) h1 h.1 w
  rw [hP] at h4
  rw [hQ] at h5
  have hl : decide (r < t) = false := df (by omega)
  clear h h1 h3 hP hQ
  subst h4
  have h5' : (Q == q) = false := by simpa using h5
  clear h5
  go_enter Tryd.func8, Tryd.ntmps8
  go_wp2_with fail
  refine (O1.out _).mono ?_
  rintro e w1 ⟨rfl, d1⟩
  have c1 : Below w.heap.size w w1 := Below.trans (by go_grown) (d1.mono (by simp; try omega))
  have z0 : w1.cell? ⟨w.heap.size, 0, none⟩ = some (.int .i64 r) := keepCell d1 (by go_simp)
  have qz0 := World.block_lt_of_cell? _ _ z0
  have z1 : w1.cell? ⟨w.heap.size, 1, none⟩ = some (.int .i64 a) := keepCell d1 (by go_simp)
  have z2 : w1.cell? ⟨w.heap.size, 2, none⟩ = some (.int .i64 b) := keepCell d1 (by go_simp)
  have y0 : w1.cell? ⟨w.heap.size + 1, 0, none⟩ = some (.int .i64 t) := keepCell d1 (by go_simp)
  have qy0 := World.block_lt_of_cell? _ _ y0
  have y1 : w1.cell? ⟨w.heap.size + 1, 1, none⟩ = some (.int .i64 P) := keepCell d1 (by go_simp)
  have y2 : w1.cell? ⟨w.heap.size + 1, 2, none⟩ = some (.int .i64 q) := keepCell d1 (by go_simp)
  have hB := c1
  clear c1 d1
  go_wp2_with fail
  refine (O2.out _).mono ?_
  rintro e w2 ⟨rfl, d2⟩
  have c2 : Below w1.heap.size w1 w2 := Below.trans (by go_grown) (d2.mono (by simp; try omega))
  replace z0 := keepCell c2 z0
  replace qz0 := World.block_lt_of_cell? _ _ z0
  replace z1 := keepCell c2 z1
  replace z2 := keepCell c2 z2
  replace y0 := keepCell c2 y0
  replace qy0 := World.block_lt_of_cell? _ _ y0
  replace y1 := keepCell c2 y1
  replace y2 := keepCell c2 y2
  replace hB := belowT hB c2
  clear c2 d2
  go_wp2_with fail
  refine (UP.out _).mono ?_
  rintro e w3 ⟨rfl, d3⟩
  have c3 : Below w2.heap.size w2 w3 := Below.trans (by go_grown) (d3.mono (by simp; try omega))
  replace z0 := keepCell c3 z0
  replace qz0 := World.block_lt_of_cell? _ _ z0
  replace z1 := keepCell c3 z1
  replace z2 := keepCell c3 z2
  replace y0 := keepCell c3 y0
  replace qy0 := World.block_lt_of_cell? _ _ y0
  replace y1 := keepCell c3 y1
  replace y2 := keepCell c3 y2
  replace hB := belowT hB c3
  clear c3 d3
  go_wp2
  go_ret
  exact ⟨rfl, hB.alloc (by have := hB.size; omega) _⟩

theorem rwithin_any (r a b t p q : Int) (w : World) :
    Calls Tryd.prog 8 #[.agg #[.int .i64 r, .int .i64 a, .int .i64 b], .agg #[.int .i64 t, .int .i64 p, .int .i64 q]] w fun e w' => e = .returned (.bool (withB r a b t p q)) ∧ Below w.heap.size w w' := by
  by_cases h1 : Ok4 r a b
  · by_cases h2 : Ok4 t p q
    · by_cases h3 : t ≤ r
      · by_cases h4 : (ups (r - t).toNat a b).1 = p
        · by_cases h5 : (ups (r - t).toNat a b).2 = q
          · rw [withB_mk ⟨h1, h2, h3, h4, h5⟩]; exact rwithin_yes r a b t p q h1 h2 h3 h4 h5 w
          · rw [withB_no fun h => h5 h.2.2.2.2]; exact rwithin_second r a b t p q h1 h2 h3 h4 h5 w
        · rw [withB_no fun h => h4 h.2.2.2.1]; exact rwithin_first r a b t p q h1 h2 h3 h4 w
      · rw [withB_no fun h => h3 h.2.2.1]; exact rwithin_finer r a b t p q h1 h2 (by omega) w
    · rw [withB_no fun h => h2 h.2.1]; exact rwithin_bad2 r a b t p q h1 h2 w
  · rw [withB_no fun h => h1 h.1]; exact rwithin_bad1 r a b t p q h1 w
end Go.Proofs.YtnnbdlnginkldabDoor
