/-
  What Steps of package eisen tells, for any number of the lattice with parts of 64 bits, in whatever memory: the greatest size of the three sides, or nought and false.
-/
import Derived.Test.YteipijgkiobmaabGreatDoorNB1
namespace Go.Proofs.YteipijgkiobmaabGreatDoor
open Go.RowKit

set_option maxHeartbeats 400000 in
theorem along_0 (a b : Int) (w : World) :
    Calls Tryz.prog 53 #[.agg #[.int .i64 a, .int .i64 b]] w fun e w' => e = .returned (.tuple #[.int .i64 a, .bool true]) ∧ Below w.heap.size w w' := by
  go_enter Tryz.func53, Tryz.ntmps53
  go_wp2
  go_ret2
  exact ⟨rfl, by go_grown⟩
set_option maxHeartbeats 400000 in
theorem along_1 (a b : Int) (w : World) :
    Calls Tryz.prog 54 #[.agg #[.int .i64 a, .int .i64 b]] w fun e w' => e = .returned (.tuple #[.int .i64 b, .bool true]) ∧ Below w.heap.size w w' := by
  go_enter Tryz.func54, Tryz.ntmps54
  go_wp2
  go_ret2
  exact ⟨rfl, by go_grown⟩
set_option maxHeartbeats 400000 in
theorem along_2 (a b : Int) (a1 : -9223372036854775808 ≤ a) (a2 : a ≤ 9223372036854775807) (b1 : -9223372036854775808 ≤ b) (b2 : b ≤ 9223372036854775807) (w : World) :
    Calls Tryz.prog 55 #[.agg #[.int .i64 a, .int .i64 b]] w fun e w' => e = .returned (.tuple #[.int .i64 (kept (a + b)), .bool (fits (a + b))]) ∧ Below w.heap.size w w' := by
  go_enter Tryz.func55, Tryz.ntmps55
  go_wp2_with fail
  refine (add_any a b a1 a2 b1 b2 _).mono ?_
  rintro e w1 ⟨rfl, c1⟩
  have hB : Below w.heap.size w w1 := Below.trans (by go_grown) (c1.mono (by simp; try omega))
  go_wp2
  go_ret2
  exact ⟨rfl, hB⟩

theorem spans_0 (w : World) : (Instr.index 96 (.agg #[.func (.func 53) #[] #[], .func (.func 54) #[] #[], .func (.func 55) #[] #[]]) (.int .i64 0)).run Tryz.prog w = .ok (.func (.func 53) #[] #[]) w := by kernel_rfl
theorem spans_1 (w : World) : (Instr.index 96 (.agg #[.func (.func 53) #[] #[], .func (.func 54) #[] #[], .func (.func 55) #[] #[]]) (.int .i64 1)).run Tryz.prog w = .ok (.func (.func 54) #[] #[]) w := by kernel_rfl
theorem spans_2 (w : World) : (Instr.index 96 (.agg #[.func (.func 53) #[] #[], .func (.func 54) #[] #[], .func (.func 55) #[] #[]]) (.int .i64 2)).run Tryz.prog w = .ok (.func (.func 55) #[] #[]) w := by kernel_rfl

/-- The sides. -/
def sideN (a b : Int) : Nat → Int
  | 0 => a
  | 1 => b
  | _ => a + b
/-- The greatest size of the first k sides. -/
def mostN (a b : Int) : Nat → Int
  | 0 => 0
  | k + 1 => max (mostN a b k) ((sideN a b k).natAbs : Int)
/-- Each of the first k sides, and its size, is a number of 64 bits. -/
def SidesFit (a b : Int) (k : Nat) : Prop := ∀ j, j < k → -9223372036854775808 < sideN a b j ∧ sideN a b j ≤ 9223372036854775807
theorem sidesFit_up {a b : Int} {k : Nat} (h : SidesFit a b k) (hk : -9223372036854775808 < sideN a b k ∧ sideN a b k ≤ 9223372036854775807) : SidesFit a b (k + 1) := by
  intro j hj
  by_cases e : j = k
  · subst e; exact hk
  · exact h j (by omega)
theorem most_up {a b m n : Int} {k : Nat} (h : m = mostN a b k) (hn : n = ((sideN a b k).natAbs : Int)) : max m n = mostN a b (k + 1) := by subst h; subst hn; rfl
theorem ite_max (m v : Int) : (if m < v then v else m) = max m v := by split <;> omega
/-- The ending that tells the steps. -/
def StepsSay (a b : Int) (e : Ending) : Prop :=
  (SidesFit a b 3 ∧ e = .returned (.tuple #[.int .i64 (mostN a b 3), .bool true])) ∨ (¬ SidesFit a b 3 ∧ e = .returned (.tuple #[.int .i64 0, .bool false]))

set_option maxHeartbeats 1000000 in
theorem esteps_see (a b : Int) (a1 : -9223372036854775808 ≤ a) (a2 : a ≤ 9223372036854775807) (b1 : -9223372036854775808 ≤ b) (b2 : b ≤ 9223372036854775807) (w : World) :
    Calls Tryz.prog 32 #[.agg #[.int .i64 a, .int .i64 b]] w fun e w' => StepsSay a b e ∧ Below w.heap.size w w' := by
  have C2 : Hid (∀ w, Calls Tryz.prog 55 #[.agg #[.int .i64 a, .int .i64 b]] w fun e w' => e = .returned (.tuple #[.int .i64 (kept (a + b)), .bool (fits (a + b))]) ∧ Below w.heap.size w w') := along_2 a b a1 a2 b1 b2
  go_enter Tryz.func32, Tryz.ntmps32
  go_wp2_with fail
  go_loopw [4, 10] (fun vm vi wr => ∃ (k : Nat) (m : Int), k ≤ 3 ∧ 0 ≤ m ∧ m ≤ 9223372036854775807 ∧ vi = .int .i64 (k : Int) ∧ vm = .int .i64 m ∧ Hid (m = mostN a b k) ∧ Hid (SidesFit a b k) ∧ wr.cell? ⟨w.heap.size, 0, none⟩ = some (.int .i64 a) ∧ wr.cell? ⟨w.heap.size, 1, none⟩ = some (.int .i64 b) ∧ Below w.heap.size w wr) (fun _ vi _ => 3 - (intOf vi).toNat)
  case atStart => exact ⟨0, 0, by omega, by omega, by omega, rfl, rfl, rfl, (fun j hj => absurd hj (Nat.not_lt_zero j)), by go_simp, by go_simp, by go_grown⟩
  case round =>
    obtain ⟨k, m, hk, m1, m2, rfl, rfl, HM, HS, y0, y1, hB⟩ := hrel
    have ck : k = 0 ∨ k = 1 ∨ k = 2 ∨ k = 3 := by omega
    rcases ck with rfl | rfl | rfl | rfl
    · have CK := along_0 a b
      have HI := spans_0
      clear C2
      by_cases hneg : a < 0
      · by_cases hlow : a = -9223372036854775808
        · have hN : Hid (∀ w, Calls Tryz.prog 56 #[.int .i64 a] w fun e w' => e = .returned (.tuple #[.int .i64 0, .bool false]) ∧ Below w.heap.size w w') := by rw [hlow]; exact neg_low
          have HR : Hid (StepsSay a b (.returned (.tuple #[.int .i64 0, .bool false]))) := Or.inr ⟨fun h => by have h1 := (h 0 (by omega)).1; have h2 : sideN a b 0 = a := rfl; omega, rfl⟩
          replace CK : Hid _ := CK
          clear hlow
          go_wp2_with fail
          refine (CK.out _).mono ?_
          rintro e w2 ⟨rfl, c2⟩
          have hB2 := belowT hB c2
          clear y0 y1 hB c2
          go_wp2_with fail
          refine (hN.out _).mono ?_
          rintro e w3 ⟨rfl, c3⟩
          have hB3 := belowT hB2 c3
          go_wp2
          go_ret2
          exact ⟨HR.out, hB3⟩
        · have hN := neg_fits (a) (by omega) (by omega)
          replace hN : Hid _ := hN
          have HV : Hid (-a = ((sideN a b 0).natAbs : Int)) := by show -a = ((a).natAbs : Int); omega
          have HU : Hid (SidesFit a b 1) := sidesFit_up HS.out (by show _ < a ∧ a ≤ _; omega)
          replace CK : Hid _ := CK
          go_wp2_with fail
          refine (CK.out _).mono ?_
          rintro e w2 ⟨rfl, c2⟩
          have z0 := keepCell c2 y0
          have z1 := keepCell c2 y1
          have hB2 := belowT hB c2
          clear y0 y1 hB c2
          go_wp2_with fail
          refine (hN.out _).mono ?_
          rintro e w3 ⟨rfl, c3⟩
          have x0 := keepCell c3 z0
          have x1 := keepCell c3 z1
          have hB3 := belowT hB2 c3
          clear z0 z1 hB2 c3
          go_wp2
          go_roundw
          case rel => first | exact ⟨1, (if m < -a then -a else m), by omega, by split <;> omega, by split <;> omega, rfl, rfl, by rw [ite_max]; exact most_up HM.out HV.out, HU.out, x0, x1, hB3⟩ | exact ⟨1, max m (-a), by omega, by omega, by omega, rfl, rfl, most_up HM.out HV.out, HU.out, x0, x1, hB3⟩
          case measure => simp [intOf]
      · have hneg' := df hneg
        have HV : Hid (a = ((sideN a b 0).natAbs : Int)) := by show a = ((a).natAbs : Int); omega
        have HU : Hid (SidesFit a b 1) := sidesFit_up HS.out (by show _ < a ∧ a ≤ _; omega)
        replace CK : Hid _ := CK
        go_wp2_with fail
        refine (CK.out _).mono ?_
        rintro e w2 ⟨rfl, c2⟩
        have z0 := keepCell c2 y0
        have z1 := keepCell c2 y1
        have hB2 := belowT hB c2
        clear y0 y1 hB c2
        go_wp2
        go_roundw
        case rel => first | exact ⟨1, (if m < a then a else m), by omega, by split <;> omega, by split <;> omega, rfl, rfl, by rw [ite_max]; exact most_up HM.out HV.out, HU.out, z0, z1, hB2⟩ | exact ⟨1, max m (a), by omega, by omega, by omega, rfl, rfl, most_up HM.out HV.out, HU.out, z0, z1, hB2⟩
        case measure => simp [intOf]
    · have CK := along_1 a b
      have HI := spans_1
      clear C2
      by_cases hneg : b < 0
      · by_cases hlow : b = -9223372036854775808
        · have hN : Hid (∀ w, Calls Tryz.prog 56 #[.int .i64 b] w fun e w' => e = .returned (.tuple #[.int .i64 0, .bool false]) ∧ Below w.heap.size w w') := by rw [hlow]; exact neg_low
          have HR : Hid (StepsSay a b (.returned (.tuple #[.int .i64 0, .bool false]))) := Or.inr ⟨fun h => by have h1 := (h 1 (by omega)).1; have h2 : sideN a b 1 = b := rfl; omega, rfl⟩
          replace CK : Hid _ := CK
          clear hlow
          go_wp2_with fail
          refine (CK.out _).mono ?_
          rintro e w2 ⟨rfl, c2⟩
          have hB2 := belowT hB c2
          clear y0 y1 hB c2
          go_wp2_with fail
          refine (hN.out _).mono ?_
          rintro e w3 ⟨rfl, c3⟩
          have hB3 := belowT hB2 c3
          go_wp2
          go_ret2
          exact ⟨HR.out, hB3⟩
        · have hN := neg_fits (b) (by omega) (by omega)
          replace hN : Hid _ := hN
          have HV : Hid (-b = ((sideN a b 1).natAbs : Int)) := by show -b = ((b).natAbs : Int); omega
          have HU : Hid (SidesFit a b 2) := sidesFit_up HS.out (by show _ < b ∧ b ≤ _; omega)
          replace CK : Hid _ := CK
          go_wp2_with fail
          refine (CK.out _).mono ?_
          rintro e w2 ⟨rfl, c2⟩
          have z0 := keepCell c2 y0
          have z1 := keepCell c2 y1
          have hB2 := belowT hB c2
          clear y0 y1 hB c2
          go_wp2_with fail
          refine (hN.out _).mono ?_
          rintro e w3 ⟨rfl, c3⟩
          have x0 := keepCell c3 z0
          have x1 := keepCell c3 z1
          have hB3 := belowT hB2 c3
          clear z0 z1 hB2 c3
          go_wp2
          go_roundw
          case rel => first | exact ⟨2, (if m < -b then -b else m), by omega, by split <;> omega, by split <;> omega, rfl, rfl, by rw [ite_max]; exact most_up HM.out HV.out, HU.out, x0, x1, hB3⟩ | exact ⟨2, max m (-b), by omega, by omega, by omega, rfl, rfl, most_up HM.out HV.out, HU.out, x0, x1, hB3⟩
          case measure => simp [intOf]
      · have hneg' := df hneg
        have HV : Hid (b = ((sideN a b 1).natAbs : Int)) := by show b = ((b).natAbs : Int); omega
        have HU : Hid (SidesFit a b 2) := sidesFit_up HS.out (by show _ < b ∧ b ≤ _; omega)
        replace CK : Hid _ := CK
        go_wp2_with fail
        refine (CK.out _).mono ?_
        rintro e w2 ⟨rfl, c2⟩
        have z0 := keepCell c2 y0
        have z1 := keepCell c2 y1
        have hB2 := belowT hB c2
        clear y0 y1 hB c2
        go_wp2
        go_roundw
        case rel => first | exact ⟨2, (if m < b then b else m), by omega, by split <;> omega, by split <;> omega, rfl, rfl, by rw [ite_max]; exact most_up HM.out HV.out, HU.out, z0, z1, hB2⟩ | exact ⟨2, max m (b), by omega, by omega, by omega, rfl, rfl, most_up HM.out HV.out, HU.out, z0, z1, hB2⟩
        case measure => simp [intOf]
    · have HI := spans_2
      cases hfit : fits (a + b) with
      | true =>
        have CK := C2.out
        rw [hfit, kept_mk hfit] at CK
        have hbd := fits_of hfit
        clear C2 hfit
        obtain ⟨n, hn⟩ : ∃ n, a + b = n := ⟨_, rfl⟩
        rw [hn] at CK hbd
        replace hn : Hid _ := hn
        by_cases hneg : n < 0
        · by_cases hlow : n = -9223372036854775808
          · have hN : Hid (∀ w, Calls Tryz.prog 56 #[.int .i64 n] w fun e w' => e = .returned (.tuple #[.int .i64 0, .bool false]) ∧ Below w.heap.size w w') := by rw [hlow]; exact neg_low
            have HR : Hid (StepsSay a b (.returned (.tuple #[.int .i64 0, .bool false]))) := Or.inr ⟨fun h => by have h1 := (h 2 (by omega)).1; have h2 : sideN a b 2 = a + b := rfl; have h3 := hn.out; omega, rfl⟩
            replace CK : Hid _ := CK
            clear hlow
            go_wp2_with fail
            refine (CK.out _).mono ?_
            rintro e w2 ⟨rfl, c2⟩
            have hB2 := belowT hB c2
            clear y0 y1 hB c2
            go_wp2_with fail
            refine (hN.out _).mono ?_
            rintro e w3 ⟨rfl, c3⟩
            have hB3 := belowT hB2 c3
            go_wp2
            go_ret2
            exact ⟨HR.out, hB3⟩
          · have hN := neg_fits (n) (by omega) (by omega)
            replace hN : Hid _ := hN
            have HV : Hid (-n = ((sideN a b 2).natAbs : Int)) := by show -n = ((a + b).natAbs : Int); have h3 := hn.out; omega
            have HU : Hid (SidesFit a b 3) := sidesFit_up HS.out (by show _ < a + b ∧ a + b ≤ _; have h3 := hn.out; omega)
            replace CK : Hid _ := CK
            go_wp2_with fail
            refine (CK.out _).mono ?_
            rintro e w2 ⟨rfl, c2⟩
            have z0 := keepCell c2 y0
            have z1 := keepCell c2 y1
            have hB2 := belowT hB c2
            clear y0 y1 hB c2
            go_wp2_with fail
            refine (hN.out _).mono ?_
            rintro e w3 ⟨rfl, c3⟩
            have x0 := keepCell c3 z0
            have x1 := keepCell c3 z1
            have hB3 := belowT hB2 c3
            clear z0 z1 hB2 c3
            go_wp2
            go_roundw
            case rel => first | exact ⟨3, (if m < -n then -n else m), by omega, by split <;> omega, by split <;> omega, rfl, rfl, by rw [ite_max]; exact most_up HM.out HV.out, HU.out, x0, x1, hB3⟩ | exact ⟨3, max m (-n), by omega, by omega, by omega, rfl, rfl, most_up HM.out HV.out, HU.out, x0, x1, hB3⟩
            case measure => simp [intOf]
        · have hneg' := df hneg
          have HV : Hid (n = ((sideN a b 2).natAbs : Int)) := by show n = ((a + b).natAbs : Int); have h3 := hn.out; omega
          have HU : Hid (SidesFit a b 3) := sidesFit_up HS.out (by show _ < a + b ∧ a + b ≤ _; have h3 := hn.out; omega)
          replace CK : Hid _ := CK
          go_wp2_with fail
          refine (CK.out _).mono ?_
          rintro e w2 ⟨rfl, c2⟩
          have z0 := keepCell c2 y0
          have z1 := keepCell c2 y1
          have hB2 := belowT hB c2
          clear y0 y1 hB c2
          go_wp2
          go_roundw
          case rel => first | exact ⟨3, (if m < n then n else m), by omega, by split <;> omega, by split <;> omega, rfl, rfl, by rw [ite_max]; exact most_up HM.out HV.out, HU.out, z0, z1, hB2⟩ | exact ⟨3, max m (n), by omega, by omega, by omega, rfl, rfl, most_up HM.out HV.out, HU.out, z0, z1, hB2⟩
          case measure => simp [intOf]
      | false =>
        have CK := C2.out
        rw [hfit, kept_no hfit] at CK
        have hbd : ¬ (-9223372036854775808 ≤ a + b ∧ a + b ≤ 9223372036854775807) := fun h => by rw [fits_mk h] at hfit; cases hfit
        have HR : Hid (StepsSay a b (.returned (.tuple #[.int .i64 0, .bool false]))) := Or.inr ⟨fun h => hbd (by have h1 := h 2 (by omega); have h2 : sideN a b 2 = a + b := rfl; omega), rfl⟩
        replace CK : Hid _ := CK
        clear C2 hfit hbd
        go_wp2_with fail
        refine (CK.out _).mono ?_
        rintro e w2 ⟨rfl, c2⟩
        have hB2 := belowT hB c2
        clear y0 y1 hB c2
        go_wp2
        go_ret2
        exact ⟨HR.out, hB2⟩
    · clear C2
      go_wp2
      go_ret2
      exact ⟨Or.inl ⟨HS.out, by rw [← HM.out]; rfl⟩, hB⟩
end Go.Proofs.YteipijgkiobmaabGreatDoor
