/-
  What Steps of package eisen tells, for any number of the lattice with parts of 64 bits, in whatever memory: the greatest size of the three sides, or nought and false.
-/
import Derived.Test.YteipijgkiobmaaaGreatDoorNB1
import Derived.Test.YteipijgkiobmaaaGreatDoorNB3
namespace Go.Proofs.YteipijgkiobmaaaGreatDoor
open Go.RowKit

set_option maxHeartbeats 400000 in
theorem along_0 (a b : Int) (w : World) :
    Calls Tryz.prog 86 #[.agg #[.int .i64 a, .int .i64 b]] w fun e w' => e = .returned (.tuple #[.int .i64 a, .bool true]) ∧ Below w.heap.size w w' := by
  go_enter Tryz.func86, Tryz.ntmps86
  go_wp2
  go_ret2
  exact ⟨rfl, by go_grown⟩
set_option maxHeartbeats 400000 in
theorem along_1 (a b : Int) (w : World) :
    Calls Tryz.prog 87 #[.agg #[.int .i64 a, .int .i64 b]] w fun e w' => e = .returned (.tuple #[.int .i64 b, .bool true]) ∧ Below w.heap.size w w' := by
  go_enter Tryz.func87, Tryz.ntmps87
  go_wp2
  go_ret2
  exact ⟨rfl, by go_grown⟩
set_option maxHeartbeats 400000 in
theorem along_2 (a b : Int) (a1 : -9223372036854775808 ≤ a) (a2 : a ≤ 9223372036854775807) (b1 : -9223372036854775808 ≤ b) (b2 : b ≤ 9223372036854775807) (w : World) :
    Calls Tryz.prog 88 #[.agg #[.int .i64 a, .int .i64 b]] w fun e w' => e = .returned (.tuple #[.int .i64 (kept (a + b)), .bool (fits (a + b))]) ∧ Below w.heap.size w w' := by
  go_enter Tryz.func88, Tryz.ntmps88
  go_wp2_with fail
  refine (add_any a b a1 a2 b1 b2 _).mono ?_
  rintro e w1 ⟨rfl, c1⟩
  have hB : Below w.heap.size w w1 := Below.trans (by go_grown) (c1.mono (by simp; try omega))
  go_wp2
  go_ret2
  exact ⟨rfl, hB⟩

theorem spans_0 (w : World) : (Instr.index 130 (.agg #[.func (.func 86) #[] #[], .func (.func 87) #[] #[], .func (.func 88) #[] #[]]) (.int .i64 0)).run Tryz.prog w = .ok (.func (.func 86) #[] #[]) w := by kernel_rfl
theorem spans_1 (w : World) : (Instr.index 130 (.agg #[.func (.func 86) #[] #[], .func (.func 87) #[] #[], .func (.func 88) #[] #[]]) (.int .i64 1)).run Tryz.prog w = .ok (.func (.func 87) #[] #[]) w := by kernel_rfl
theorem spans_2 (w : World) : (Instr.index 130 (.agg #[.func (.func 86) #[] #[], .func (.func 87) #[] #[], .func (.func 88) #[] #[]]) (.int .i64 2)).run Tryz.prog w = .ok (.func (.func 88) #[] #[]) w := by kernel_rfl

/-- The sides. -/
def sideN (a b : Int) : Nat → Int
  | 0 => a
  | 1 => b
  | _ => a + b
/-- The greatest size of the first k sides. -/
def mostN (a b : Int) : Nat → Int
  | 0 => 0
  | k + 1 => max (mostN a b k) ((sideN a b k).natAbs : Int)
/-- Each of the first k sides, and its size, is a number of 64 bits. -/
def SidesFit (a b : Int) (k : Nat) : Prop := ∀ j, j < k → -9223372036854775808 < sideN a b j ∧ sideN a b j ≤ 9223372036854775807
theorem sidesFit_up {a b : Int} {k : Nat} (h : SidesFit a b k) (hk : -9223372036854775808 < sideN a b k ∧ sideN a b k ≤ 9223372036854775807) : SidesFit a b (k + 1) := by
  intro j hj
  by_cases e : j = k
  · subst e; exact hk
  · exact h j (by omega)
theorem most_up {a b m n : Int} {k : Nat} (h : m = mostN a b k) (hn : n = ((sideN a b k).natAbs : Int)) : max m n = mostN a b (k + 1) := by subst h; subst hn; rfl
theorem ite_max (m v : Int) : (if m < v then v else m) = max m v := by split <;> omega
/-- The ending that tells the steps. -/
def StepsSay (a b : Int) (e : Ending) : Prop :=
  (SidesFit a b 3 ∧ e = .returned (.tuple #[.int .i64 (mostN a b 3), .bool true])) ∨ (¬ SidesFit a b 3 ∧ e = .returned (.tuple #[.int .i64 0, .bool false]))

set_option maxHeartbeats 1000000 in
theorem esteps_see (a b : Int) (a1 : -9223372036854775808 ≤ a) (a2 : a ≤ 9223372036854775807) (b1 : -9223372036854775808 ≤ b) (b2 : b ≤ 9223372036854775807) (w : World) :
    Calls Tryz.prog 51 #[.agg #[.int .i64 a, .int .i64 b]] w fun e w' => StepsSay a b e ∧ Below w.heap.size w w' := by
  have C2 : Hid (∀ w, Calls Tryz.prog 88 #[.agg #[.int .i64 a, .int .i64 b]] w fun e w' => e = .returned (.tuple #[.int .i64 (kept (a + b)), .bool (fits (a + b))]) ∧ Below w.heap.size w w') := along_2 a b a1 a2 b1 b2
  go_enter Tryz.func51, Tryz.ntmps51
  go_wp2_with fail
  go_loopw [4, 10] (fun vm vi wr => ∃ (k : Nat) (m : Int), k ≤ 3 ∧ 0 ≤ m ∧ m ≤ 9223372036854775807 ∧ vi = .int .i64 (k : Int) ∧ vm = .int .i64 m ∧ Hid (m = mostN a b k) ∧ Hid (SidesFit a b k) ∧ wr.cell? ⟨w.heap.size, 0, none⟩ = some (.int .i64 a) ∧ wr.cell? ⟨w.heap.size, 1, none⟩ = some (.int .i64 b) ∧ Below w.heap.size w wr) (fun _ vi _ => 3 - (intOf vi).toNat)
  case atStart => exact ⟨0, 0, by omega, by omega, by omega, rfl, rfl, rfl, (fun j hj => absurd hj (Nat.not_lt_zero j)), by go_simp, by go_simp, by go_grown⟩
  case round =>
    obtain ⟨k, m, hk, m1, m2, rfl, rfl, HM, HS, y0, y1, hB⟩ := hrel
    have ck : k = 0 ∨ k = 1 ∨ k = 2 ∨ k = 3 := by omega
    rcases ck with rfl | rfl | rfl | rfl
    · have CK := along_0 a b
      have HI := spans_0
      clear C2
      by_cases hneg : a < 0
      · by_cases hlow : a = -9223372036854775808
        · have hN : Hid (∀ w, Calls Tryz.prog 89 #[.int .i64 a] w fun e w' => e = .returned (.tuple #[.int .i64 0, .bool false]) ∧ Below w.heap.size w w') := by rw [hlow]; exact neg_low
          have HR : Hid (StepsSay a b (.returned (.tuple #[.int .i64 0, .bool false]))) := Or.inr ⟨fun h => by have h1 := (h 0 (by omega)).1; have h2 : sideN a b 0 = a := rfl; omega, rfl⟩
          replace CK : Hid _ := CK
          clear hlow
          go_wp2_with fail
          refine (CK.out _).mono ?_
          rintro e w2 ⟨rfl, c2⟩
          have hB2 := belowT hB c2
          clear y0 y1 hB c2
          go_wp2_with fail
          refine (hN.out _).mono ?_
          rintro e w3 ⟨rfl, c3⟩
          have hB3 := belowT hB2 c3
          go_wp2
          go_ret2
          exact ⟨HR.out, hB3⟩
        · have hN := neg_fits (a) (by omega) (by omega)
          replace hN : Hid _ := hN
          have HV : Hid (-a = ((sideN a b 0).natAbs : Int)) := by show -a = ((a).natAbs : Int); omega
          have HU : Hid (SidesFit a b 1) := sidesFit_up HS.out (by show _ < a ∧ a ≤ _; omega)
          replace CK : Hid _ := CK
          go_wp2_with fail
          refine (CK.out _).mono ?_
          rintro e w2 ⟨rfl, c2⟩
          have z0 := keepCell c2 y0
          have z1 := keepCell c2 y1
          have hB2 := belowT hB c2
          clear y0 y1 hB c2
          go_wp2_with fail
          refine (hN.out _).mono ?_
          rintro e w3 ⟨rfl, c3⟩
          have x0 := keepCell c3 z0
          have x1 := keepCell c3 z1
          have hB3 := belowT hB2 c3
          clear z0 z1 hB2 c3
          go_wp2
          go_roundw
          case rel => first | exact ⟨1, (if m < -a then -a else m), by omega, by split <;> omega, by split <;> omega, rfl, rfl, by rw [ite_max]; exact most_up HM.out HV.out, HU.out, x0, x1, hB3⟩ | exact ⟨1, max m (-a), by omega, by omega, by omega, rfl, rfl, most_up HM.out HV.out, HU.out, x0, x1, hB3⟩
          case measure => simp [intOf]
      · have hneg' := df hneg
        have HV : Hid (a = ((sideN a b 0).natAbs : Int)) := by show a = ((a).natAbs : Int); omega
        have HU : Hid (SidesFit a b 1) := sidesFit_up HS.out (by show _ < a ∧ a ≤ _; omega)
        replace CK : Hid _ := CK
        go_wp2_with fail
        refine (CK.out _).mono ?_
        rintro e w2 ⟨rfl, c2⟩
        have z0 := keepCell c2 y0
        have z1 := keepCell c2 y1
        have hB2 := belowT hB c2
        clear y0 y1 hB c2
        go_wp2
        go_roundw
        case rel => first | exact ⟨1, (if m < a then a else m), by omega, by split <;> omega, by split <;> omega, rfl, rfl, by rw [ite_max]; exact most_up HM.out HV.out, HU.out, z0, z1, hB2⟩ | exact ⟨1, max m (a), by omega, by omega, by omega, rfl, rfl, most_up HM.out HV.out, HU.out, z0, z1, hB2⟩
        case measure => simp [intOf]
    · have CK := along_1 a b
      have HI := spans_1
      clear C2
      by_cases hneg : b < 0
      · by_cases hlow : b = -9223372036854775808
        · have hN : Hid (∀ w, Calls Tryz.prog 89 #[.int .i64 b] w fun e w' => e = .returned (.tuple #[.int .i64 0, .bool false]) ∧ Below w.heap.size w w') := by rw [hlow]; exact neg_low
          have HR : Hid (StepsSay a b (.returned (.tuple #[.int .i64 0, .bool false]))) := Or.inr ⟨fun h => by have h1 := (h 1 (by omega)).1; have h2 : sideN a b 1 = b := rfl; omega, rfl⟩
          replace CK : Hid _ := CK
          clear hlow
          go_wp2_with fail
          refine (CK.out _).mono ?_
          rintro e w2 ⟨rfl, c2⟩
          have hB2 := belowT hB c2
          clear y0 y1 hB c2
          go_wp2_with fail
          refine (hN.out _).mono ?_
          rintro e w3 ⟨rfl, c3⟩
          have hB3 := belowT hB2 c3
          go_wp2
          go_ret2
          exact ⟨HR.out, hB3⟩
        · have hN := neg_fits (b) (by omega) (by omega)
          replace hN : Hid _ := hN
          have HV : Hid (-b = ((sideN a b 1).natAbs : Int)) := by show -b = ((b).natAbs : Int); omega
          have HU : Hid (SidesFit a b 2) := sidesFit_up HS.out (by show _ < b ∧ b ≤ _; omega)
          replace CK : Hid _ := CK
          go_wp2_with fail
          refine (CK.out _).mono ?_
          rintro e w2 ⟨rfl, c2⟩
          have z0 := keepCell c2 y0
          have z1 := keepCell c2 y1
          have hB2 := belowT hB c2
          clear y0 y1 hB c2
          go_wp2_with fail
          refine (hN.out _).mono ?_
          rintro e w3 ⟨rfl, c3⟩
          have x0 := keepCell c3 z0
          have x1 := keepCell c3 z1
          have hB3 := belowT hB2 c3
          clear z0 z1 hB2 c3
          go_wp2
          go_roundw
          case rel => first | exact ⟨2, (if m < -b then -b else m), by omega, by split <;> omega, by split <;> omega, rfl, rfl, by rw [ite_max]; exact most_up HM.out HV.out, HU.out, x0, x1, hB3⟩ | exact ⟨2, max m (-b), by omega, by omega, by omega, rfl, rfl, most_up HM.out HV.out, HU.out, x0, x1, hB3⟩
          case measure => simp [intOf]
      · have hneg' := df hneg
        have HV : Hid (b = ((sideN a b 1).natAbs : Int)) := by show b = ((b).natAbs : Int); omega
        have HU : Hid (SidesFit a b 2) := sidesFit_up HS.out (by show _ < b ∧ b ≤ _; omega)
        replace CK : Hid _ := CK
        go_wp2_with fail
        refine (CK.out _).mono ?_
        rintro e w2 ⟨rfl, c2⟩
        have z0 := keepCell c2 y0
        have z1 := keepCell c2 y1
        have hB2 := belowT hB c2
        clear y0 y1 hB c2
        go_wp2
        go_roundw
        case rel => first | exact ⟨2, (if m < b then b else m), by omega, by split <;> omega, by split <;> omega, rfl, rfl, by rw [ite_max]; exact most_up HM.out HV.out, HU.out, z0, z1, hB2⟩ | exact ⟨2, max m (b), by omega, by omega, by omega, rfl, rfl, most_up HM.out HV.out, HU.out, z0, z1, hB2⟩
        case measure => simp [intOf]
    · have HI := spans_2
      cases hfit : fits (a + b) with
      | true =>
        have CK := C2.out
        rw [hfit, kept_mk hfit] at CK
        have hbd := fits_of hfit
        clear C2 hfit
        obtain ⟨n, hn⟩ : ∃ n, a + b = n := ⟨_, rfl⟩
        rw [hn] at CK hbd
        replace hn : Hid _ := hn
        by_cases hneg : n < 0
        · by_cases hlow : n = -9223372036854775808
          · have hN : Hid (∀ w, Calls Tryz.prog 89 #[.int .i64 n] w fun e w' => e = .returned (.tuple #[.int .i64 0, .bool false]) ∧ Below w.heap.size w w') := by rw [hlow]; exact neg_low
            have HR : Hid (StepsSay a b (.returned (.tuple #[.int .i64 0, .bool false]))) := Or.inr ⟨fun h => by have h1 := (h 2 (by omega)).1; have h2 : sideN a b 2 = a + b := rfl; have h3 := hn.out; omega, rfl⟩
            replace CK : Hid _ := CK
            clear hlow
            go_wp2_with fail
            refine (CK.out _).mono ?_
            rintro e w2 ⟨rfl, c2⟩
            have hB2 := belowT hB c2
            clear y0 y1 hB c2
            go_wp2_with fail
            refine (hN.out _).mono ?_
            rintro e w3 ⟨rfl, c3⟩
            have hB3 := belowT hB2 c3
            go_wp2
            go_ret2
            exact ⟨HR.out, hB3⟩
          · have hN := neg_fits (n) (by omega) (by omega)
            replace hN : Hid _ := hN
            have HV : Hid (-n = ((sideN a b 2).natAbs : Int)) := by show -n = ((a + b).natAbs : Int); have h3 := hn.out; omega
            have HU : Hid (SidesFit a b 3) := sidesFit_up HS.out (by show _ < a + b ∧ a + b ≤ _; have h3 := hn.out; omega)
            replace CK : Hid _ := CK
            go_wp2_with fail
            refine (CK.out _).mono ?_
            rintro e w2 ⟨rfl, c2⟩
            have z0 := keepCell c2 y0
            have z1 := keepCell c2 y1
            have hB2 := belowT hB c2
            clear y0 y1 hB c2
            go_wp2_with fail
            refine (hN.out _).mono ?_
            rintro e w3 ⟨rfl, c3⟩
            have x0 := keepCell c3 z0
            have x1 := keepCell c3 z1
            have hB3 := belowT hB2 c3
            clear z0 z1 hB2 c3
            go_wp2
            go_roundw
            case rel => first | exact ⟨3, (if m < -n then -n else m), by omega, by split <;> omega, by split <;> omega, rfl, rfl, by rw [ite_max]; exact most_up HM.out HV.out, HU.out, x0, x1, hB3⟩ | exact ⟨3, max m (-n), by omega, by omega, by omega, rfl, rfl, most_up HM.out HV.out, HU.out, x0, x1, hB3⟩
            case measure => simp [intOf]
        · have hneg' := df hneg
          have HV : Hid (n = ((sideN a b 2).natAbs : Int)) := by show n = ((a + b).natAbs : Int); have h3 := hn.out; omega
          have HU : Hid (SidesFit a b 3) := sidesFit_up HS.out (by show _ < a + b ∧ a + b ≤ _; have h3 := hn.out; omega)
          replace CK : Hid _ := CK
          go_wp2_with fail
          refine (CK.out _).mono ?_
          rintro e w2 ⟨rfl, c2⟩
          have z0 := keepCell c2 y0
          have z1 := keepCell c2 y1
          have hB2 := belowT hB c2
          clear y0 y1 hB c2
          go_wp2
          go_roundw
          case rel => first | exact ⟨3, (if m < n then n else m), by omega, by split <;> omega, by split <;> omega, rfl, rfl, by rw [ite_max]; exact most_up HM.out HV.out, HU.out, z0, z1, hB2⟩ | exact ⟨3, max m (n), by omega, by omega, by omega, rfl, rfl, most_up HM.out HV.out, HU.out, z0, z1, hB2⟩
          case measure => simp [intOf]
      | false =>
        have CK := C2.out
        rw [hfit, kept_no hfit] at CK
        have hbd : ¬ (-9223372036854775808 ≤ a + b ∧ a + b ≤ 9223372036854775807) := fun h => by rw [fits_mk h] at hfit; cases hfit
        have HR : Hid (StepsSay a b (.returned (.tuple #[.int .i64 0, .bool false]))) := Or.inr ⟨fun h => hbd (by have h1 := h 2 (by omega); have h2 : sideN a b 2 = a + b := rfl; omega), rfl⟩
        replace CK : Hid _ := CK
        clear C2 hfit hbd
        go_wp2_with fail
        refine (CK.out _).mono ?_
        rintro e w2 ⟨rfl, c2⟩
        have hB2 := belowT hB c2
        clear y0 y1 hB c2
        go_wp2
        go_ret2
        exact ⟨HR.out, hB2⟩
    · clear C2
      go_wp2
      go_ret2
      exact ⟨Or.inl ⟨HS.out, by rw [← HM.out]; rfl⟩, hB⟩
end Go.Proofs.YteipijgkiobmaaaGreatDoor

/-
  What the document's own Steps tells, for any numbers of the lattice that are no ends of 64 bits, in whatever memory.
-/
namespace Go.Proofs.YteipijgkiobmaaaGreatDoor
open Go.RowKit

theorem ret_pair {a b : Int} {c : Bool} (h : a = b) : Ending.returned (.tuple #[.int .i64 a, .bool c]) = .returned (.tuple #[.int .i64 b, .bool c]) := by rw [h]

set_option maxHeartbeats 1000000 in
theorem refsteps_yes (a b : Int) (a1 : -9223372036854775808 < a) (a2 : a ≤ 9223372036854775807) (b1 : -9223372036854775808 < b) (b2 : b ≤ 9223372036854775807) (c1 : -9223372036854775808 < a + b) (c2 : a + b ≤ 9223372036854775807) (w : World) :
    Calls Tryz.prog 39 #[.agg #[.int .i64 a, .int .i64 b]] w fun e w' => e = .returned (.tuple #[.int .i64 (max (max (a.natAbs : Int) b.natAbs) (a + b).natAbs), .bool true]) ∧ Below w.heap.size w w' := by
  have e2 := kept_mk (n := a + b) (fits_mk ⟨by omega, by omega⟩)
  have e3 := fits_mk (n := a + b) ⟨by omega, by omega⟩
  have SM : Hid (∀ w, Calls Tryz.prog 60 #[.agg #[.int .u64 (high64 (a + b)), .int .u64 (low64 (a + b))]] w fun e w' => e = .returned (.tuple #[.int .i64 (a + b), .bool true]) ∧ Below w.heap.size w w') := by
    intro w
    have := small_any (a + b) (by omega) (by omega) w
    rw [e2, e3] at this
    exact this
  have b1' : -9223372036854775808 ≤ b := by omega
  have a1' : -9223372036854775808 ≤ a := by omega
  have t1 : (a == -9223372036854775808) = false := by simpa using (show a ≠ -9223372036854775808 by omega)
  have t2 : (b == -9223372036854775808) = false := by simpa using (show b ≠ -9223372036854775808 by omega)
  have t3 : (a + b == -9223372036854775808) = false := by simpa using (show a + b ≠ -9223372036854775808 by omega)
  clear e2 e3
  have s0 : (w.alloc (.cells #[.int .i64 a, .int .i64 b] 35)).drew.cell? ⟨w.heap.size, 0, none⟩ = some (.int .i64 a) := by go_simp
  have s1 : (w.alloc (.cells #[.int .i64 a, .int .i64 b] 35)).drew.cell? ⟨w.heap.size, 1, none⟩ = some (.int .i64 b) := by go_simp
  have hbw : Below w.heap.size w (w.alloc (.cells #[.int .i64 a, .int .i64 b] 35)).drew := ((Below.refl _ _).alloc (Nat.le_refl _) _).drew
  go_enter Tryz.func39, Tryz.ntmps39
  go_wp2_with fail
  go_region_held3 (fun w' => w'.cell? ⟨w.heap.size, 0, none⟩ = some (.int .i64 a) ∧ w'.cell? ⟨w.heap.size, 1, none⟩ = some (.int .i64 b) ∧ Below w.heap.size w w') (first | exact ⟨s0, s1, hbw⟩ | (exact And.intro (keepCell hb (And.left (by assumption))) (And.intro (keepCell hb (And.left (And.right (by assumption)))) (belowT (And.right (And.right (by assumption))) hb))))
    (first | (go_at_call 59; refine (wide_any _ (by assumption) (by assumption) _).mono ?_; rintro e w' ⟨rfl, hb⟩) | (go_at_call 56; refine (plus_any _ _ _).mono ?_; rintro e w' ⟨rfl, hb⟩) | (go_at_call 60; refine (SM.out _).mono ?_; rintro e w' ⟨rfl, hb⟩))
  go_wp2_with fail
  go_quiet ((go_at_call 61; exact Calls.quiet_of_same (size_any _ (by omega) (by omega) _)))
  go_wp2
  all_goals
    have hS : Below w.heap.size w w' := (‹w'.cell? ⟨w.heap.size, 0, none⟩ = some (.int .i64 a) ∧ w'.cell? ⟨w.heap.size, 1, none⟩ = some (.int .i64 b) ∧ Below w.heap.size w w'›).2.2
    go_ret2
    exact ⟨ret_pair (by omega), belowN hS _⟩
end Go.Proofs.YteipijgkiobmaaaGreatDoor

/-
  What package eisen's rounding tells (within, the four sides, nearest, Round), for any number of the lattice and any divisor, in whatever memory.
-/
namespace Go.Proofs.YteipijgkiobmaaaGreatDoor
open Go.RowKit

/-- Whether a number lies between two. -/
def betw (n l h : Int) : Bool := decide (l ≤ n ∧ n ≤ h)
set_option maxHeartbeats 400000 in
theorem within_yes (n l h : Int) (h1 : l ≤ n) (h2 : n ≤ h) (w : World) :
    Calls Tryz.prog 90 #[.int .i64 n, .int .i64 l, .int .i64 h] w fun e w' => e = .returned (.bool true) ∧ w' = w := by
  go_enter Tryz.func90, Tryz.ntmps90
  go_wp2
  go_ret
  exact ⟨rfl, rfl⟩
set_option maxHeartbeats 400000 in
theorem within_below (n l h : Int) (h1 : decide (l ≤ n) = false) (w : World) :
    Calls Tryz.prog 90 #[.int .i64 n, .int .i64 l, .int .i64 h] w fun e w' => e = .returned (.bool false) ∧ w' = w := by
  go_enter Tryz.func90, Tryz.ntmps90
  go_wp2
  go_ret
  exact ⟨rfl, rfl⟩
set_option maxHeartbeats 400000 in
theorem within_above (n l h : Int) (h1 : l ≤ n) (h2 : decide (n ≤ h) = false) (w : World) :
    Calls Tryz.prog 90 #[.int .i64 n, .int .i64 l, .int .i64 h] w fun e w' => e = .returned (.bool false) ∧ w' = w := by
  go_enter Tryz.func90, Tryz.ntmps90
  go_wp2
  go_ret
  exact ⟨rfl, rfl⟩
theorem within_any (n l h : Int) (w : World) :
    Calls Tryz.prog 90 #[.int .i64 n, .int .i64 l, .int .i64 h] w fun e w' => e = .returned (.bool (betw n l h)) ∧ w' = w := by
  by_cases h1 : l ≤ n
  · by_cases h2 : n ≤ h
    · rw [show betw n l h = true from decide_eq_true ⟨h1, h2⟩]; exact within_yes n l h h1 h2 w
    · rw [show betw n l h = false from decide_eq_false (fun k => h2 k.2)]; exact within_above n l h h1 (df h2) w
  · rw [show betw n l h = false from decide_eq_false (fun k => h1 k.1)]; exact within_below n l h (df h1) w

set_option maxHeartbeats 400000 in
theorem side_0 (s t d : Int) (w : World) :
    Calls Tryz.prog 114 #[.agg #[.int .i64 s, .int .i64 t, .int .i64 d]] w fun e w' => e = .returned (.int .i64 (farN s t d 0)) ∧ Below w.heap.size w w' := by
  show Calls _ _ _ _ fun e w' => e = .returned (.int .i64 (0)) ∧ Below w.heap.size w w'
  go_enter Tryz.func114, Tryz.ntmps114
  go_wp2
  go_ret
  exact ⟨rfl, by go_grown⟩

set_option maxHeartbeats 400000 in
theorem side_1 (s t d : Int) (s0 : 0 ≤ s) (s1 : s < d) (t0 : 0 ≤ t) (t1 : t < d) (d2 : d ≤ 1125899906842624) (w : World) :
    Calls Tryz.prog 115 #[.agg #[.int .i64 s, .int .i64 t, .int .i64 d]] w fun e w' => e = .returned (.int .i64 (farN s t d 1)) ∧ Below w.heap.size w w' := by
  show Calls _ _ _ _ fun e w' => e = .returned (.int .i64 (d - s - 2 * t)) ∧ Below w.heap.size w w'
  go_enter Tryz.func115, Tryz.ntmps115
  go_wp2
  go_ret
  exact ⟨rfl, by go_grown⟩

set_option maxHeartbeats 400000 in
theorem side_2 (s t d : Int) (s0 : 0 ≤ s) (s1 : s < d) (t0 : 0 ≤ t) (t1 : t < d) (d2 : d ≤ 1125899906842624) (w : World) :
    Calls Tryz.prog 116 #[.agg #[.int .i64 s, .int .i64 t, .int .i64 d]] w fun e w' => e = .returned (.int .i64 (farN s t d 2)) ∧ Below w.heap.size w w' := by
  show Calls _ _ _ _ fun e w' => e = .returned (.int .i64 (d - 2 * s - t)) ∧ Below w.heap.size w w'
  go_enter Tryz.func116, Tryz.ntmps116
  go_wp2
  go_ret
  exact ⟨rfl, by go_grown⟩

set_option maxHeartbeats 400000 in
theorem side_3 (s t d : Int) (s0 : 0 ≤ s) (s1 : s < d) (t0 : 0 ≤ t) (t1 : t < d) (d2 : d ≤ 1125899906842624) (w : World) :
    Calls Tryz.prog 117 #[.agg #[.int .i64 s, .int .i64 t, .int .i64 d]] w fun e w' => e = .returned (.int .i64 (farN s t d 3)) ∧ Below w.heap.size w w' := by
  show Calls _ _ _ _ fun e w' => e = .returned (.int .i64 (3 * (d - s - t))) ∧ Below w.heap.size w w'
  go_enter Tryz.func117, Tryz.ntmps117
  go_wp2
  go_ret
  exact ⟨rfl, by go_grown⟩

theorem pick_yes {s t d l : Int} {k b : Nat} (h : pick s t d k = (b, l)) (hl : farN s t d k < l) : pick s t d (k + 1) = (k, farN s t d k) := by
  show (if farN s t d k < (pick s t d k).2 then (k, farN s t d k) else pick s t d k) = _
  rw [h]; exact if_pos hl
theorem pick_no {s t d l : Int} {k b : Nat} (h : pick s t d k = (b, l)) (hl : ¬ farN s t d k < l) : pick s t d (k + 1) = (b, l) := by
  show (if farN s t d k < (pick s t d k).2 then (k, farN s t d k) else pick s t d k) = _
  rw [h]; exact if_neg hl

theorem sides_0 (w : World) : (Instr.index 159 (.agg #[.func (.func 114) #[] #[], .func (.func 115) #[] #[], .func (.func 116) #[] #[], .func (.func 117) #[] #[]]) (.int .i64 0)).run Tryz.prog w = .ok (.func (.func 114) #[] #[]) w := by kernel_rfl
theorem sides_1 (w : World) : (Instr.index 159 (.agg #[.func (.func 114) #[] #[], .func (.func 115) #[] #[], .func (.func 116) #[] #[], .func (.func 117) #[] #[]]) (.int .i64 1)).run Tryz.prog w = .ok (.func (.func 115) #[] #[]) w := by kernel_rfl
theorem sides_2 (w : World) : (Instr.index 159 (.agg #[.func (.func 114) #[] #[], .func (.func 115) #[] #[], .func (.func 116) #[] #[], .func (.func 117) #[] #[]]) (.int .i64 2)).run Tryz.prog w = .ok (.func (.func 116) #[] #[]) w := by kernel_rfl
theorem sides_3 (w : World) : (Instr.index 159 (.agg #[.func (.func 114) #[] #[], .func (.func 115) #[] #[], .func (.func 116) #[] #[], .func (.func 117) #[] #[]]) (.int .i64 3)).run Tryz.prog w = .ok (.func (.func 117) #[] #[]) w := by kernel_rfl

set_option maxHeartbeats 1000000 in
theorem nearest_any (s t d : Int) (s0 : 0 ≤ s) (s1 : s < d) (t0 : 0 ≤ t) (t1 : t < d) (d2 : d ≤ 1125899906842624) (w : World) :
    Calls Tryz.prog 91 #[.agg #[.int .i64 s, .int .i64 t, .int .i64 d]] w fun e w' => e = .returned (.tuple #[.int .i64 (((pick s t d 4).1 : Int) / 2), .int .i64 (((pick s t d 4).1 : Int) % 2)]) ∧ Below w.heap.size w w' := by
  have C0 : Hid (∀ w, Calls Tryz.prog 114 #[.agg #[.int .i64 s, .int .i64 t, .int .i64 d]] w fun e w' => e = .returned (.int .i64 0) ∧ Below w.heap.size w w') := side_0 s t d
  have C1 : Hid (∀ w, Calls Tryz.prog 115 #[.agg #[.int .i64 s, .int .i64 t, .int .i64 d]] w fun e w' => e = .returned (.int .i64 (farN s t d 1)) ∧ Below w.heap.size w w') := side_1 s t d s0 s1 t0 t1 d2
  have C2 : Hid (∀ w, Calls Tryz.prog 116 #[.agg #[.int .i64 s, .int .i64 t, .int .i64 d]] w fun e w' => e = .returned (.int .i64 (farN s t d 2)) ∧ Below w.heap.size w w') := side_2 s t d s0 s1 t0 t1 d2
  have C3 : Hid (∀ w, Calls Tryz.prog 117 #[.agg #[.int .i64 s, .int .i64 t, .int .i64 d]] w fun e w' => e = .returned (.int .i64 (farN s t d 3)) ∧ Below w.heap.size w w') := side_3 s t d s0 s1 t0 t1 d2
  clear s0 s1 t0 t1 d2
  go_enter Tryz.func91, Tryz.ntmps91
  go_wp2_with fail
  refine (C0.out _).mono ?_
  rintro e w1 ⟨rfl, c1⟩
  obtain ⟨hc, hf⟩ := bcell c1
  have x0 : w1.cell? ⟨w.heap.size, 0, none⟩ = some (.int .i64 s) := by rw [hc _ _ (by simp)]; go_simp
  have x1 : w1.cell? ⟨w.heap.size, 1, none⟩ = some (.int .i64 t) := by rw [hc _ _ (by simp)]; go_simp
  have x2 : w1.cell? ⟨w.heap.size, 2, none⟩ = some (.int .i64 d) := by rw [hc _ _ (by simp)]; go_simp
  have hb1 : Below w.heap.size w w1 := Below.trans (by go_grown) (c1.mono (by simp; try omega))
  clear hc hf c1
  go_wp2_with fail
  go_loopw [4, 5, 12] (fun vb vl vi wr => ∃ (k b : Nat) (l : Int), k ≤ 4 ∧ b ≤ 3 ∧ vi = .int .i64 (k : Int) ∧ vb = .int .i64 (b : Int) ∧ vl = .int .i64 l ∧ Hid (pick s t d k = (b, l)) ∧ wr.cell? ⟨w.heap.size, 0, none⟩ = some (.int .i64 s) ∧ wr.cell? ⟨w.heap.size, 1, none⟩ = some (.int .i64 t) ∧ wr.cell? ⟨w.heap.size, 2, none⟩ = some (.int .i64 d) ∧ Below w.heap.size w wr) (fun _ _ vi _ => 4 - (intOf vi).toNat)
  case atStart => exact ⟨0, 0, 0, by omega, by omega, rfl, rfl, rfl, rfl, x0, x1, x2, hb1⟩
  case round =>
    obtain ⟨k, b, l, hk, hb, rfl, rfl, rfl, HP, y0, y1, y2, hB⟩ := hrel
    clear x0 x1 x2 hb1
    have ck : k = 0 ∨ k = 1 ∨ k = 2 ∨ k = 3 ∨ k = 4 := by omega
    rcases ck with rfl | rfl | rfl | rfl | rfl
    · have CK := C0
      clear C0 C1 C2 C3
      have HI := sides_0
      by_cases hlt : 0 < l
      · go_wp2_with fail
        refine (CK.out _).mono ?_
        rintro e w2 ⟨rfl, c2⟩
        have z0 := keepCell c2 y0
        have z1 := keepCell c2 y1
        have z2 := keepCell c2 y2
        have hB2 := belowT hB c2
        clear y0 y1 y2 hB c2
        go_wp2
        go_roundw
        case rel => exact ⟨1, 0, 0, by omega, by omega, rfl, rfl, rfl, by show pick s t d (0 + 1) = _; rw [pick_yes HP.out (by exact hlt)]; rfl, z0, z1, z2, hB2⟩
        case measure => simp [intOf]
      · have hlt' := df hlt
        go_wp2_with fail
        refine (CK.out _).mono ?_
        rintro e w2 ⟨rfl, c2⟩
        have z0 := keepCell c2 y0
        have z1 := keepCell c2 y1
        have z2 := keepCell c2 y2
        have hB2 := belowT hB c2
        clear y0 y1 y2 hB c2
        go_wp2
        go_roundw
        case rel => exact ⟨1, b, l, by omega, by omega, rfl, rfl, rfl, pick_no HP.out (by show ¬ (0 : Int) < l; omega), z0, z1, z2, hB2⟩
        case measure => simp [intOf]
    · obtain ⟨f, hF⟩ : ∃ f, farN s t d 1 = f := ⟨_, rfl⟩
      have CK := C1
      rw [hF] at CK
      replace hF : Hid _ := hF
      clear C0 C1 C2 C3
      have HI := sides_1
      by_cases hlt : f < l
      · go_wp2_with fail
        refine (CK.out _).mono ?_
        rintro e w2 ⟨rfl, c2⟩
        have z0 := keepCell c2 y0
        have z1 := keepCell c2 y1
        have z2 := keepCell c2 y2
        have hB2 := belowT hB c2
        clear y0 y1 y2 hB c2
        go_wp2
        go_roundw
        case rel => exact ⟨2, 1, f, by omega, by omega, rfl, rfl, rfl, by show pick s t d (1 + 1) = _; rw [pick_yes HP.out (by rw [hF.out]; exact hlt)]; rw [hF.out], z0, z1, z2, hB2⟩
        case measure => simp [intOf]
      · have hlt' := df hlt
        go_wp2_with fail
        refine (CK.out _).mono ?_
        rintro e w2 ⟨rfl, c2⟩
        have z0 := keepCell c2 y0
        have z1 := keepCell c2 y1
        have z2 := keepCell c2 y2
        have hB2 := belowT hB c2
        clear y0 y1 y2 hB c2
        go_wp2
        go_roundw
        case rel => exact ⟨2, b, l, by omega, by omega, rfl, rfl, rfl, pick_no HP.out (by rw [hF.out]; omega), z0, z1, z2, hB2⟩
        case measure => simp [intOf]
    · obtain ⟨f, hF⟩ : ∃ f, farN s t d 2 = f := ⟨_, rfl⟩
      have CK := C2
      rw [hF] at CK
      replace hF : Hid _ := hF
      clear C0 C1 C2 C3
      have HI := sides_2
      by_cases hlt : f < l
      · go_wp2_with fail
        refine (CK.out _).mono ?_
        rintro e w2 ⟨rfl, c2⟩
        have z0 := keepCell c2 y0
        have z1 := keepCell c2 y1
        have z2 := keepCell c2 y2
        have hB2 := belowT hB c2
        clear y0 y1 y2 hB c2
        go_wp2
        go_roundw
        case rel => exact ⟨3, 2, f, by omega, by omega, rfl, rfl, rfl, by show pick s t d (2 + 1) = _; rw [pick_yes HP.out (by rw [hF.out]; exact hlt)]; rw [hF.out], z0, z1, z2, hB2⟩
        case measure => simp [intOf]
      · have hlt' := df hlt
        go_wp2_with fail
        refine (CK.out _).mono ?_
        rintro e w2 ⟨rfl, c2⟩
        have z0 := keepCell c2 y0
        have z1 := keepCell c2 y1
        have z2 := keepCell c2 y2
        have hB2 := belowT hB c2
        clear y0 y1 y2 hB c2
        go_wp2
        go_roundw
        case rel => exact ⟨3, b, l, by omega, by omega, rfl, rfl, rfl, pick_no HP.out (by rw [hF.out]; omega), z0, z1, z2, hB2⟩
        case measure => simp [intOf]
    · obtain ⟨f, hF⟩ : ∃ f, farN s t d 3 = f := ⟨_, rfl⟩
      have CK := C3
      rw [hF] at CK
      replace hF : Hid _ := hF
      clear C0 C1 C2 C3
      have HI := sides_3
      by_cases hlt : f < l
      · go_wp2_with fail
        refine (CK.out _).mono ?_
        rintro e w2 ⟨rfl, c2⟩
        have z0 := keepCell c2 y0
        have z1 := keepCell c2 y1
        have z2 := keepCell c2 y2
        have hB2 := belowT hB c2
        clear y0 y1 y2 hB c2
        go_wp2
        go_roundw
        case rel => exact ⟨4, 3, f, by omega, by omega, rfl, rfl, rfl, by show pick s t d (3 + 1) = _; rw [pick_yes HP.out (by rw [hF.out]; exact hlt)]; rw [hF.out], z0, z1, z2, hB2⟩
        case measure => simp [intOf]
      · have hlt' := df hlt
        go_wp2_with fail
        refine (CK.out _).mono ?_
        rintro e w2 ⟨rfl, c2⟩
        have z0 := keepCell c2 y0
        have z1 := keepCell c2 y1
        have z2 := keepCell c2 y2
        have hB2 := belowT hB c2
        clear y0 y1 y2 hB c2
        go_wp2
        go_roundw
        case rel => exact ⟨4, b, l, by omega, by omega, rfl, rfl, rfl, pick_no HP.out (by rw [hF.out]; omega), z0, z1, z2, hB2⟩
        case measure => simp [intOf]
    · clear C0 C1 C2 C3
      go_wp2
      go_ret2
      exact ⟨by rw [HP.out]; rfl, hB⟩

/-- ROUND, where it may be: the nearest centre, the least of several. -/
theorem fdiv_box {u d : Int} (u1 : -1152921504606846976 ≤ u) (u2 : u ≤ 1152921504606846976) (d1 : 1 ≤ d) : -1152921504606846976 ≤ u / d ∧ u / d ≤ 1152921504606846976 := div_box u1 u2 d1

set_option maxHeartbeats 1000000 in
theorem eround_see (u v d : Int) (u1 : -1152921504606846976 ≤ u) (u2 : u ≤ 1152921504606846976) (v1 : -1152921504606846976 ≤ v) (v2 : v ≤ 1152921504606846976) (d1 : 1 ≤ d) (d2 : d ≤ 1125899906842624) (w : World) :
    Calls Tryz.prog 52 #[.agg #[.int .i64 u, .int .i64 v], .int .i64 d] w fun e w' => TellsR d u v e ∧ Below w.heap.size w w' := by
  have q1 : -1152921504606846976 ≤ u / d ∧ u / d ≤ 1152921504606846976 := div_box u1 u2 d1
  have q2 : -1152921504606846976 ≤ v / d ∧ v / d ≤ 1152921504606846976 := div_box v1 v2 d1
  have r1 := Int.emod_nonneg u (b := d) (by omega)
  have r2 := Int.emod_lt_of_pos u (b := d) (by omega)
  have r3 := Int.emod_nonneg v (b := d) (by omega)
  have r4 := Int.emod_lt_of_pos v (b := d) (by omega)
  have E1 : Hid (u = d * (u / d) + u % d) := (Int.mul_ediv_add_emod u d).symm
  have E2 : Hid (v = d * (v / d) + v % d) := (Int.mul_ediv_add_emod v d).symm
  have F1 : ∀ w, Calls Tryz.prog 73 #[.int .i64 u, .int .i64 d] w fun e w' => e = .returned (.tuple #[.int .i64 (u / d), .int .i64 (u % d), .bool true]) ∧ Below w.heap.size w w' := floor_any u d (by omega) (by omega) (by omega) (by omega)
  have F2 : ∀ w, Calls Tryz.prog 73 #[.int .i64 v, .int .i64 d] w fun e w' => e = .returned (.tuple #[.int .i64 (v / d), .int .i64 (v % d), .bool true]) ∧ Below w.heap.size w w' := floor_any v d (by omega) (by omega) (by omega) (by omega)
  generalize u / d = a at q1 E1 F1
  generalize v / d = b at q2 E2 F2
  generalize u % d = s at r1 r2 E1 F1
  generalize v % d = t at r3 r4 E2 F2
  have PN := pick_near r1 r2 r3 r4
  have hN : Nearest d u v (a + (((pick s t d 4).1 : Nat) : Int) / 2) (b + (((pick s t d 4).1 : Nat) : Int) % 2) := nearest_of E1.out E2.out PN.1 PN.2
  have NE := nearest_any s t d r1 r2 r3 r4 d2
  have hp : 0 ≤ (((pick s t d 4).1 : Nat) : Int) ∧ (((pick s t d 4).1 : Nat) : Int) ≤ 4 := by have := pick_lt s t d 4; omega
  generalize (((pick s t d 4).1 : Nat) : Int) = p at hN NE hp
  obtain ⟨i, hi⟩ : ∃ i, p / 2 = i := ⟨_, rfl⟩
  obtain ⟨k, hk⟩ : ∃ k, p % 2 = k := ⟨_, rfl⟩
  have i1 : 0 ≤ i ∧ i ≤ 2 := by omega
  have k1 : 0 ≤ k ∧ k ≤ 1 := by omega
  rw [hi, hk] at hN NE
  replace F1 : Hid _ := F1
  replace F2 : Hid _ := F2
  replace NE : Hid _ := NE
  replace hN : Hid _ := hN
  have b1 : betw d 1 1125899906842624 = true := decide_eq_true ⟨d1, d2⟩
  have b2 : betw u (-1152921504606846976) 1152921504606846976 = true := decide_eq_true ⟨u1, u2⟩
  have b3 : betw v (-1152921504606846976) 1152921504606846976 = true := decide_eq_true ⟨v1, v2⟩
  clear PN hi hk hp E1 E2 r1 r2 r3 r4
  go_enter Tryz.func52, Tryz.ntmps52
  go_wp2_with (first | (go_at_call 90; refine (within_any _ _ _ _).mono ?_; rintro e w' ⟨rfl, rfl⟩))
  go_wp2_with fail
  refine (F1.out _).mono ?_
  rintro e w1 ⟨rfl, c1⟩
  obtain ⟨hc, hf⟩ := bcell c1
  go_wp2_with fail
  refine (F2.out _).mono ?_
  rintro e w2 ⟨rfl, c2⟩
  replace c2 := belowT c1 c2
  clear c1 hc hf
  obtain ⟨hc, hf⟩ := bcell c2
  go_wp2_with fail
  refine (NE.out _).mono ?_
  rintro e w3 ⟨rfl, c3⟩
  replace c3 := belowT c2 c3
  clear c2 hc hf
  obtain ⟨hc, hf⟩ := bcell c3
  have e0 : w3.cell? ⟨w.heap.size + 1, 0, none⟩ = some (.int .i64 0) := by rw [hc _ _ (by simp)]; go_simp
  have e1 : w3.cell? ⟨w.heap.size + 1, 1, none⟩ = some (.int .i64 0) := by rw [hc _ _ (by simp)]; go_simp
  obtain ⟨g0, g1⟩ := two_stores (u := .int .i64 (a + i)) (v := .int .i64 (b + k)) e0 e1
  have hB : Below w.heap.size w w3 := Below.trans (by go_grown) (c3.mono (by simp; try omega))
  go_wp2
  exact bodyPost_ret (v := .tuple #[.agg #[.int .i64 (a + i), .int .i64 (b + k)], .bool true]) (by simp [results, Tryz.results52, go_sem, g0, g1]) rfl ⟨⟨a + i, b + k, rfl, hN.out⟩, (hB.setCell (by simp; try omega) _).setCell (by simp; try omega) _⟩

set_option maxHeartbeats 400000 in
theorem eround_d (u v d : Int) (b1 : betw d 1 1125899906842624 = false) (w : World) :
    Calls Tryz.prog 52 #[.agg #[.int .i64 u, .int .i64 v], .int .i64 d] w fun e w' => e = .returned (.tuple #[.agg #[.int .i64 0, .int .i64 0], .bool false]) ∧ Below w.heap.size w w' := by
  go_enter Tryz.func52, Tryz.ntmps52
  go_wp2_with (first | (go_at_call 90; refine (within_any _ _ _ _).mono ?_; rintro e w' ⟨rfl, rfl⟩))
  exact bodyPost_ret (v := .tuple #[.agg #[.int .i64 0, .int .i64 0], .bool false]) (by simp [results, Tryz.results52, go_sem]) rfl ⟨rfl, by go_grown⟩

set_option maxHeartbeats 400000 in
theorem eround_u (u v d : Int) (b1 : betw d 1 1125899906842624 = true) (b2 : betw u (-1152921504606846976) 1152921504606846976 = false) (w : World) :
    Calls Tryz.prog 52 #[.agg #[.int .i64 u, .int .i64 v], .int .i64 d] w fun e w' => e = .returned (.tuple #[.agg #[.int .i64 0, .int .i64 0], .bool false]) ∧ Below w.heap.size w w' := by
  go_enter Tryz.func52, Tryz.ntmps52
  go_wp2_with (first | (go_at_call 90; refine (within_any _ _ _ _).mono ?_; rintro e w' ⟨rfl, rfl⟩))
  exact bodyPost_ret (v := .tuple #[.agg #[.int .i64 0, .int .i64 0], .bool false]) (by simp [results, Tryz.results52, go_sem]) rfl ⟨rfl, by go_grown⟩

set_option maxHeartbeats 400000 in
theorem eround_v (u v d : Int) (b1 : betw d 1 1125899906842624 = true) (b2 : betw u (-1152921504606846976) 1152921504606846976 = true) (b3 : betw v (-1152921504606846976) 1152921504606846976 = false) (w : World) :
    Calls Tryz.prog 52 #[.agg #[.int .i64 u, .int .i64 v], .int .i64 d] w fun e w' => e = .returned (.tuple #[.agg #[.int .i64 0, .int .i64 0], .bool false]) ∧ Below w.heap.size w w' := by
  go_enter Tryz.func52, Tryz.ntmps52
  go_wp2_with (first | (go_at_call 90; refine (within_any _ _ _ _).mono ?_; rintro e w' ⟨rfl, rfl⟩))
  exact bodyPost_ret (v := .tuple #[.agg #[.int .i64 0, .int .i64 0], .bool false]) (by simp [results, Tryz.results52, go_sem]) rfl ⟨rfl, by go_grown⟩

theorem eround_no (u v d : Int) (h : ¬ (1 ≤ d ∧ d ≤ 1125899906842624 ∧ -1152921504606846976 ≤ u ∧ u ≤ 1152921504606846976 ∧ -1152921504606846976 ≤ v ∧ v ≤ 1152921504606846976)) (w : World) :
    Calls Tryz.prog 52 #[.agg #[.int .i64 u, .int .i64 v], .int .i64 d] w fun e w' => e = .returned (.tuple #[.agg #[.int .i64 0, .int .i64 0], .bool false]) ∧ Below w.heap.size w w' := by
  cases b1 : betw d 1 1125899906842624 with
  | false => exact eround_d u v d b1 w
  | true =>
    cases b2 : betw u (-1152921504606846976) 1152921504606846976 with
    | false => exact eround_u u v d b1 b2 w
    | true =>
      cases b3 : betw v (-1152921504606846976) 1152921504606846976 with
      | false => exact eround_v u v d b1 b2 b3 w
      | true =>
        exfalso
        have k1 := of_decide_eq_true b1
        have k2 := of_decide_eq_true b2
        have k3 := of_decide_eq_true b3
        omega
end Go.Proofs.YteipijgkiobmaaaGreatDoor
