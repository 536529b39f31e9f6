/-
  Package disk's each, handed a method value: what the method does to each write that waits, in their order; in whatever memory.
-/
import Derived.Test.YtinplpcobmbekaaBD
import Derived.Test.YtinplpcobmbekaaKRel
import Derived.Laws.CopyOwn
import Derived.Below
import Derived.Test.YtinplpcobmbekaaProg
import Derived.Handy
import Derived.Deep.QuietTactic
import Derived.WalkSpells
import Derived.WalkLawsBesides
import Derived.BigQuiet
import Derived.PlainAid
import Derived.Deep.RegionWith
import Derived.Laws.BitsAllLaws
import Derived.OwnWalk
import Derived.Laws.OwnMore
import Derived.Deep.RegionHeld3
import Derived.WalkSmall
import Derived.Deep.CutRange
import Derived.BigRegion
import Derived.OneCell
import Derived.Sort.Row
import Derived.ChangeSlices
import Derived.OpenShut
import Derived.Deep.AppendLies
import Derived.Laws.BytesArg
import Derived.Laws.CopyRow
import Derived.Laws.IdiomCopy
import Derived.Deep.OwnRows
import Derived.Deep.RegionLaw
namespace Go.Proofs.Ytinplpcobmbekaa
open Go.RowKit

set_option maxHeartbeats 4000000 in
theorem k_each_last {Q o : Nat} {r vw : Value} {L : List Wt} {w : World} (R : Nat → World → Prop) (hq : w.cell? ⟨Q, o, none⟩ = some vw) (hvw : ∃ p c, vw = .slice p L.length c) (hkeep : ∀ i w w', R i w → Below w.heap.size w w' → R i w')
    (hcell : ∀ i (h : i < L.length) w, R i w → ∃ g c, vw = .slice (some ⟨g, 0, none⟩) L.length c ∧ w.cell? ⟨g, i * 2, none⟩ = some (.int .i64 (L[i].at_ : Int)) ∧ w.cell? ⟨g, i * 2 + 1, none⟩ = some L[i].v)
    (hcall : ∀ i (h : i < L.length) w, R i w → Calls Try.prog 29 #[r, .agg #[.int .i64 (L[i].at_ : Int), L[i].v]] w fun e w' => e = .returned (.tuple #[]) ∧ R (i + 1) w')
    (hone : ∀ i (h : i < L.length), ∃ p m c, L[i].v = .slice p m c) (h0 : R 0 w) (hlen : L.length ≤ 4000000000) :
    Calls Try.prog 28 #[.pointer (some ⟨Q, o, none⟩), .func (.func 29) #[r] #[]] w fun e w' => e = .returned (.tuple #[]) ∧ R L.length w' := by
  obtain ⟨p, c, rfl⟩ := hvw
  have HK := hidd hkeep
  have HC := hidd hcell
  have HF := hidd hcall
  have H1 := hidd hone
  have H0 := hidd h0
  obtain ⟨n, en⟩ : ∃ n, L.length = n := ⟨_, rfl⟩
  have EN := hidd en
  rw [en] at hq hlen ⊢
  clear hkeep hcell hcall hone h0 en
  go_enter Try.func28, Try.ntmps28
  go_wp2_with fail
  go_loopw [11] (fun v11 wr => ∃ i : Nat, i ≤ n ∧ v11 = .int .i64 (i : Int) ∧ Hid (R i wr)) (fun v11 _ => n - (intOf v11).toNat)
  case atStart => exact ⟨0, by omega, rfl, H0⟩
  case round =>
    clear H0 hq
    obtain ⟨i, hi, rfl, HR⟩ := hrel
    by_cases h1 : i < n
    · have h1' : (i : Int) < (n : Int) := by omega
      have hiL : i < L.length := by rw [EN.out]; exact h1
      obtain ⟨g, c', ev, x0, x1⟩ := HC.out i hiL wr HR.out
      simp only [Value.slice.injEq] at ev
      obtain ⟨rfl, -, rfl⟩ := ev
      have CALL := hidd fun w hw => HF.out i hiL w (HK.out i wr w HR.out hw)
      obtain ⟨q, m, k, ev⟩ := H1.out i hiL
      generalize L[i] = x at *
      obtain ⟨a, b, v⟩ := x
      try simp only at ev x0 x1 CALL
      subst ev
      clear HR
      go_wp2_with fail
      refine (CALL.out _ ?hB).mono ?_
      case hB => exact allocB _ _
      rintro e w2 ⟨rfl, h2⟩
      have H2 := hidd h2
      clear CALL h2 x0 x1
      go_wp2_with fail
      go_roundw
      case rel => exact ⟨i + 1, by omega, by go_num, H2⟩
      case measure => simp [intOf]; omega
    · obtain rfl : i = n := by omega
      have h1' : decide ((i : Int) < (i : Int)) = false := by simp
      go_wp2_with fail
      go_end0
      exact ⟨rfl, HR.out⟩

set_option maxHeartbeats 4000000 in
theorem k_each_keep {Q o : Nat} {r vw : Value} {L : List Wt} {w : World} (R : Nat → World → Prop) (hq : w.cell? ⟨Q, o, none⟩ = some vw) (hvw : ∃ p c, vw = .slice p L.length c) (hkeep : ∀ i w w', R i w → Below w.heap.size w w' → R i w')
    (hcell : ∀ i (h : i < L.length) w, R i w → ∃ g c, vw = .slice (some ⟨g, 0, none⟩) L.length c ∧ w.cell? ⟨g, i * 2, none⟩ = some (.int .i64 (L[i].at_ : Int)) ∧ w.cell? ⟨g, i * 2 + 1, none⟩ = some L[i].v)
    (hcall : ∀ i (h : i < L.length) w, R i w → Calls Try.prog 30 #[r, .agg #[.int .i64 (L[i].at_ : Int), L[i].v]] w fun e w' => e = .returned (.tuple #[]) ∧ R (i + 1) w')
    (hone : ∀ i (h : i < L.length), ∃ p m c, L[i].v = .slice p m c) (h0 : R 0 w) (hlen : L.length ≤ 4000000000) :
    Calls Try.prog 28 #[.pointer (some ⟨Q, o, none⟩), .func (.func 30) #[r] #[]] w fun e w' => e = .returned (.tuple #[]) ∧ R L.length w' := by
  obtain ⟨p, c, rfl⟩ := hvw
  have HK := hidd hkeep
  have HC := hidd hcell
  have HF := hidd hcall
  have H1 := hidd hone
  have H0 := hidd h0
  obtain ⟨n, en⟩ : ∃ n, L.length = n := ⟨_, rfl⟩
  have EN := hidd en
  rw [en] at hq hlen ⊢
  clear hkeep hcell hcall hone h0 en
  go_enter Try.func28, Try.ntmps28
  go_wp2_with fail
  go_loopw [11] (fun v11 wr => ∃ i : Nat, i ≤ n ∧ v11 = .int .i64 (i : Int) ∧ Hid (R i wr)) (fun v11 _ => n - (intOf v11).toNat)
  case atStart => exact ⟨0, by omega, rfl, H0⟩
  case round =>
    clear H0 hq
    obtain ⟨i, hi, rfl, HR⟩ := hrel
    by_cases h1 : i < n
    · have h1' : (i : Int) < (n : Int) := by omega
      have hiL : i < L.length := by rw [EN.out]; exact h1
      obtain ⟨g, c', ev, x0, x1⟩ := HC.out i hiL wr HR.out
      simp only [Value.slice.injEq] at ev
      obtain ⟨rfl, -, rfl⟩ := ev
      have CALL := hidd fun w hw => HF.out i hiL w (HK.out i wr w HR.out hw)
      obtain ⟨q, m, k, ev⟩ := H1.out i hiL
      generalize L[i] = x at *
      obtain ⟨a, b, v⟩ := x
      try simp only at ev x0 x1 CALL
      subst ev
      clear HR
      go_wp2_with fail
      refine (CALL.out _ ?hB).mono ?_
      case hB => exact allocB _ _
      rintro e w2 ⟨rfl, h2⟩
      have H2 := hidd h2
      clear CALL h2 x0 x1
      go_wp2_with fail
      go_roundw
      case rel => exact ⟨i + 1, by omega, by go_num, H2⟩
      case measure => simp [intOf]; omega
    · obtain rfl : i = n := by omega
      have h1' : decide ((i : Int) < (i : Int)) = false := by simp
      go_wp2_with fail
      go_end0
      exact ⟨rfl, HR.out⟩

set_option maxHeartbeats 4000000 in
theorem k_each_undo {Q o : Nat} {r vw : Value} {L : List Wt} {w : World} (R : Nat → World → Prop) (hq : w.cell? ⟨Q, o, none⟩ = some vw) (hvw : ∃ p c, vw = .slice p L.length c) (hkeep : ∀ i w w', R i w → Below w.heap.size w w' → R i w')
    (hcell : ∀ i (h : i < L.length) w, R i w → ∃ g c, vw = .slice (some ⟨g, 0, none⟩) L.length c ∧ w.cell? ⟨g, i * 2, none⟩ = some (.int .i64 (L[i].at_ : Int)) ∧ w.cell? ⟨g, i * 2 + 1, none⟩ = some L[i].v)
    (hcall : ∀ i (h : i < L.length) w, R i w → Calls Try.prog 31 #[r, .agg #[.int .i64 (L[i].at_ : Int), L[i].v]] w fun e w' => e = .returned (.tuple #[]) ∧ R (i + 1) w')
    (hone : ∀ i (h : i < L.length), ∃ p m c, L[i].v = .slice p m c) (h0 : R 0 w) (hlen : L.length ≤ 4000000000) :
    Calls Try.prog 28 #[.pointer (some ⟨Q, o, none⟩), .func (.func 31) #[r] #[]] w fun e w' => e = .returned (.tuple #[]) ∧ R L.length w' := by
  obtain ⟨p, c, rfl⟩ := hvw
  have HK := hidd hkeep
  have HC := hidd hcell
  have HF := hidd hcall
  have H1 := hidd hone
  have H0 := hidd h0
  obtain ⟨n, en⟩ : ∃ n, L.length = n := ⟨_, rfl⟩
  have EN := hidd en
  rw [en] at hq hlen ⊢
  clear hkeep hcell hcall hone h0 en
  go_enter Try.func28, Try.ntmps28
  go_wp2_with fail
  go_loopw [11] (fun v11 wr => ∃ i : Nat, i ≤ n ∧ v11 = .int .i64 (i : Int) ∧ Hid (R i wr)) (fun v11 _ => n - (intOf v11).toNat)
  case atStart => exact ⟨0, by omega, rfl, H0⟩
  case round =>
    clear H0 hq
    obtain ⟨i, hi, rfl, HR⟩ := hrel
    by_cases h1 : i < n
    · have h1' : (i : Int) < (n : Int) := by omega
      have hiL : i < L.length := by rw [EN.out]; exact h1
      obtain ⟨g, c', ev, x0, x1⟩ := HC.out i hiL wr HR.out
      simp only [Value.slice.injEq] at ev
      obtain ⟨rfl, -, rfl⟩ := ev
      have CALL := hidd fun w hw => HF.out i hiL w (HK.out i wr w HR.out hw)
      obtain ⟨q, m, k, ev⟩ := H1.out i hiL
      generalize L[i] = x at *
      obtain ⟨a, b, v⟩ := x
      try simp only at ev x0 x1 CALL
      subst ev
      clear HR
      go_wp2_with fail
      refine (CALL.out _ ?hB).mono ?_
      case hB => exact allocB _ _
      rintro e w2 ⟨rfl, h2⟩
      have H2 := hidd h2
      clear CALL h2 x0 x1
      go_wp2_with fail
      go_roundw
      case rel => exact ⟨i + 1, by omega, by go_num, H2⟩
      case measure => simp [intOf]; omega
    · obtain rfl : i = n := by omega
      have h1' : decide ((i : Int) < (i : Int)) = false := by simp
      go_wp2_with fail
      go_end0
      exact ⟨rfl, HR.out⟩

set_option maxHeartbeats 4000000 in
theorem k_each_add {Q o : Nat} {r vw : Value} {L : List Wt} {w : World} (R : Nat → World → Prop) (hq : w.cell? ⟨Q, o, none⟩ = some vw) (hvw : ∃ p c, vw = .slice p L.length c) (hkeep : ∀ i w w', R i w → Below w.heap.size w w' → R i w')
    (hcell : ∀ i (h : i < L.length) w, R i w → ∃ g c, vw = .slice (some ⟨g, 0, none⟩) L.length c ∧ w.cell? ⟨g, i * 2, none⟩ = some (.int .i64 (L[i].at_ : Int)) ∧ w.cell? ⟨g, i * 2 + 1, none⟩ = some L[i].v)
    (hcall : ∀ i (h : i < L.length) w, R i w → Calls Try.prog 26 #[r, .agg #[.int .i64 (L[i].at_ : Int), L[i].v]] w fun e w' => e = .returned (.tuple #[]) ∧ R (i + 1) w')
    (hone : ∀ i (h : i < L.length), ∃ p m c, L[i].v = .slice p m c) (h0 : R 0 w) (hlen : L.length ≤ 4000000000) :
    Calls Try.prog 28 #[.pointer (some ⟨Q, o, none⟩), .func (.func 26) #[r] #[]] w fun e w' => e = .returned (.tuple #[]) ∧ R L.length w' := by
  obtain ⟨p, c, rfl⟩ := hvw
  have HK := hidd hkeep
  have HC := hidd hcell
  have HF := hidd hcall
  have H1 := hidd hone
  have H0 := hidd h0
  obtain ⟨n, en⟩ : ∃ n, L.length = n := ⟨_, rfl⟩
  have EN := hidd en
  rw [en] at hq hlen ⊢
  clear hkeep hcell hcall hone h0 en
  go_enter Try.func28, Try.ntmps28
  go_wp2_with fail
  go_loopw [11] (fun v11 wr => ∃ i : Nat, i ≤ n ∧ v11 = .int .i64 (i : Int) ∧ Hid (R i wr)) (fun v11 _ => n - (intOf v11).toNat)
  case atStart => exact ⟨0, by omega, rfl, H0⟩
  case round =>
    clear H0 hq
    obtain ⟨i, hi, rfl, HR⟩ := hrel
    by_cases h1 : i < n
    · have h1' : (i : Int) < (n : Int) := by omega
      have hiL : i < L.length := by rw [EN.out]; exact h1
      obtain ⟨g, c', ev, x0, x1⟩ := HC.out i hiL wr HR.out
      simp only [Value.slice.injEq] at ev
      obtain ⟨rfl, -, rfl⟩ := ev
      have CALL := hidd fun w hw => HF.out i hiL w (HK.out i wr w HR.out hw)
      obtain ⟨q, m, k, ev⟩ := H1.out i hiL
      generalize L[i] = x at *
      obtain ⟨a, b, v⟩ := x
      try simp only at ev x0 x1 CALL
      subst ev
      clear HR
      go_wp2_with fail
      refine (CALL.out _ ?hB).mono ?_
      case hB => exact allocB _ _
      rintro e w2 ⟨rfl, h2⟩
      have H2 := hidd h2
      clear CALL h2 x0 x1
      go_wp2_with fail
      go_roundw
      case rel => exact ⟨i + 1, by omega, by go_num, H2⟩
      case measure => simp [intOf]; omega
    · obtain rfl : i = n := by omega
      have h1' : decide ((i : Int) < (i : Int)) = false := by simp
      go_wp2_with fail
      go_end0
      exact ⟨rfl, HR.out⟩

end Go.Proofs.Ytinplpcobmbekaa
