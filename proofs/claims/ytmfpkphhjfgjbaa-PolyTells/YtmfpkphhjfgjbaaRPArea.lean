/-
  What the document's own Area2 tells of a ring that may be; in whatever memory.
-/
import Derived.Test.YtmfpkphhjfgjbaaUD
import Derived.Test.YtmfpkphhjfgjbaaPRings
import Derived.Laws.BitsAllLaws
import Derived.Handy
import Derived.Deep.QuietTactic
import Derived.Test.YtmfpkphhjfgjbaaProg
import Derived.WalkSpells
import Derived.WalkLawsBesides
import Derived.BigQuiet
import Derived.PlainAid
import Derived.Deep.RegionWith
import Derived.Deep.RegionHeld3
import Derived.WalkSmall
import Derived.Deep.CutRange
import Derived.BigRegion
import Derived.OwnWalk
import Derived.Laws.OwnMore
import Derived.OneCell
import Derived.Laws.CopyOwn
import Derived.Sort.Row
namespace Go.Proofs.Ytmfpkphhjfgjbaa
open Go.RowKit

/-- The next corner's number. -/
theorem next_ix {k l : Nat} (h : k < l) : ∃ j : Nat, (k + 1) % l = j ∧ j < l ∧ ((k : Int) + 1) % (l : Int) = (j : Int) ∧ ((k : Int) + 1).tmod (l : Int) = (j : Int) := by
  have h1 := Nat.mod_lt (k + 1) (show 0 < l by omega)
  have e : (((k + 1) % l : Nat) : Int) = ((k : Int) + 1) % (l : Int) := by push_cast; rfl
  exact ⟨_, rfl, h1, e.symm, by rw [Int.tmod_eq_emod_of_nonneg (by omega)]; exact e.symm⟩

theorem prod_world {a b : Int} (a0 : 0 ≤ a) (a1 : a < 1073741824) (b0 : 0 ≤ b) (b1 : b < 1073741824) : 0 ≤ a * b ∧ a * b ≤ 1152921504606846976 := by
  have h1 := Int.mul_nonneg a0 b0
  have h2 := Int.mul_le_mul (show a ≤ 1073741824 by omega) (show b ≤ 1073741824 by omega) b0 (by omega)
  omega

theorem wrap_box (x : Int) : -9223372036854775808 ≤ wrap64 x ∧ wrap64 x ≤ 9223372036854775807 := by unfold wrap64; omega

theorem wrap_two (S A B : Int) : wrap64 (wrap64 (wrap64 S + A) - B) = wrap64 (S + (A - B)) := by unfold wrap64; omega

set_option maxHeartbeats 8000000 in
set_option maxRecDepth 20000 in
theorem r_area (s : Value) (R : List (Int × Int)) (hl : R.length ≤ 500) (hR : ∀ p ∈ R, InWo p) (w : World) (h : RingL w s R) :
    Calls Try.prog 20 #[s] w fun e w' => e = .returned (.int .i64 (wrap64 (area R))) ∧ Below w.heap.size w w' := by
  obtain ⟨p, cap, hs, -, hc⟩ := h
  obtain ⟨l, el⟩ : ∃ l, R.length = l := ⟨_, rfl⟩
  have EL := hidd el
  rw [el] at hs hl
  subst hs
  have HC := hidd hc
  have HR := hidd hR
  clear el hc hR
  go_enter Try.func20, Try.ntmps20
  go_wp2_with fail
  go_loopw [3, 4] (fun v3 v4 wr => ∃ (k : Nat) (n : Int), k ≤ l ∧ v4 = .int .i64 (k : Int) ∧ v3 = .int .i64 n ∧ -9223372036854775808 ≤ n ∧ n ≤ 9223372036854775807 ∧ Hid (n = wrap64 (part ar2 R k)) ∧ Below w.heap.size w wr) (fun _ v4 _ => l - (intOf v4).toNat)
  case atStart => exact ⟨0, 0, by omega, rfl, rfl, by omega, by omega, hidd (by show (0 : Int) = wrap64 0; unfold wrap64; omega), Below.refl _ _⟩
  case round =>
    obtain ⟨k, n, hk, rfl, rfl, n1, n2, hS, hB⟩ := hrel
    by_cases hkl : k < l
    · have hkl' : (k : Int) < (l : Int) := by omega
      have hl0 : ¬ ((l : Int) = 0) := by omega
      have hl00 : ((l : Int) == 0) = false := by simp; omega
      have hkR : k < R.length := by rw [EL.out]; exact hkl
      obtain ⟨j, ej, hj, ej1, ej2⟩ := next_ix hkl
      have hjR : j < R.length := by rw [EL.out]; exact hj
      have hj' : (j : Int) < (l : Int) := by omega
      obtain ⟨g, o, rfl, x0, x1⟩ := HC.out k hkR
      obtain ⟨g', o', e', y0, y1⟩ := HC.out j hjR
      simp only [Option.some.injEq, Addr.mk.injEq, and_true] at e'
      obtain ⟨rfl, rfl⟩ := e'
      replace x0 := keepCell hB x0
      replace x1 := keepCell hB x1
      replace y0 := keepCell hB y0
      replace y1 := keepCell hB y1
      have hg := World.block_lt_of_cell? _ _ x0
      have ip := HR.out _ (List.getElem_mem hkR)
      have iq := HR.out _ (List.getElem_mem hjR)
      have NX : Hid (part ar2 R (k + 1) = part ar2 R k + (R[k].1 * R[j].2 - R[j].1 * R[k].2)) := hidd (by
        rw [part_next, pt_at hkR, EL.out, ej, pt_at hjR]
        rfl)
      have bA := prod_world ip.1 ip.2.1 iq.2.2.1 iq.2.2.2
      have bB := prod_world iq.1 iq.2.1 ip.2.2.1 ip.2.2.2
      clear ip iq ej
      generalize R[k].1 = a at *
      generalize R[k].2 = b at *
      generalize R[j].1 = c at *
      generalize R[j].2 = d at *
      obtain ⟨A, eA⟩ : ∃ A, a * d = A := ⟨_, rfl⟩
      obtain ⟨B, eB⟩ : ∃ B, c * b = B := ⟨_, rfl⟩
      rw [eA] at bA NX
      rw [eB] at bB NX
      obtain ⟨A1, A2⟩ := bA
      obtain ⟨B1, B2⟩ := bB
      obtain ⟨m, em⟩ : ∃ m, wrap64 (n + A) = m := ⟨_, rfl⟩
      obtain ⟨m2, em2⟩ : ∃ m2, wrap64 (m - B) = m2 := ⟨_, rfl⟩
      have hm := wrap_box (n + A)
      have hm2 := wrap_box (m - B)
      rw [em] at hm
      rw [em2] at hm2
      obtain ⟨m11, m12⟩ := hm
      obtain ⟨m21, m22⟩ := hm2
      have hS2 : Hid (m2 = wrap64 (part ar2 R (k + 1))) := hidd (by rw [← em2, ← em, NX.out, hS.out, wrap_two])
      clear hS NX
      go_wp2_with fail
      go_cut [5, 6] from 7 to 37 (fun v5 v6 wx => ∃ P Q : Nat, v5 = .pointer (some ⟨P, 0, none⟩) ∧ v6 = .pointer (some ⟨Q, 0, none⟩) ∧ wx.cell? ⟨P, 0, none⟩ = some (.int .i64 a) ∧ wx.cell? ⟨P, 1, none⟩ = some (.int .i64 b) ∧ wx.cell? ⟨Q, 0, none⟩ = some (.int .i64 c) ∧ wx.cell? ⟨Q, 1, none⟩ = some (.int .i64 d) ∧ Below wr.heap.size wr wx)
      case first =>
        go_big_region
        all_goals
          go_wp2
          go_meet
          first
            | exact ⟨wr.heap.size, wr.heap.size + 1, rfl, rfl, by go_simp, by go_simp, by go_simp, by go_simp, by go_grown⟩
            | exact ⟨wr.heap.size + 1, wr.heap.size, rfl, rfl, by go_simp, by go_simp, by go_simp, by go_simp, by go_grown⟩
      case rest =>
        clear x0 x1 y0 y1 hg
        obtain ⟨P, Q, rfl, rfl, m0, m1, n0, n1', hX⟩ := hcut
        have hB2 := belowT hB hX
        clear hX hB
        go_wp2_with fail
        go_roundw
        case rel => exact ⟨k + 1, m2, by omega, by go_num, by first | rfl | rw [em2], m21, m22, hS2, hB2⟩
        case measure => simp [intOf]; omega
    · obtain rfl : k = l := by omega
      have hkl' : decide ((k : Int) < (k : Int)) = false := by simp
      have e : n = wrap64 (area R) := by rw [hS.out, ← EL.out]; rfl
      clear hS hkl
      subst e
      go_wp2_with fail
      go_ret
      exact ⟨rfl, hB⟩

end Go.Proofs.Ytmfpkphhjfgjbaa
