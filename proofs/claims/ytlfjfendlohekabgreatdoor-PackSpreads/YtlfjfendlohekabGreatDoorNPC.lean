/-
  What Pow of package num tells, for any number and exponent of 64 bits, in whatever memory.
-/
import Derived.Test.YtlfjfendlohekabGreatDoorSBrkC
import Derived.Test.YtlfjfendlohekabGreatDoorProg
import Derived.Handy
import Derived.Deep.QuietTactic
import Derived.WalkSpells
import Derived.WalkLawsBesides
import Derived.BigQuiet
import Derived.Sort.WalkA6
import Derived.Sort.Walk13a
import Derived.Sort.LotA
import Derived.Sort.LotB
import Derived.Sort.LotD1
import Derived.Deep.Draws
import Derived.WalkKit
import Derived.BigGuard
import Derived.BigCall
import Derived.CellFam
import Derived.PlainAid
import Derived.Deep.RegionWith
import Derived.Laws.BitsAllLaws
import Derived.Deep.RegionHeld3
import Derived.Sort.WalkB3
import Derived.WalkSmall
import Derived.Deep.CutRange
import Derived.BigRegion
import Derived.Deep.LoopGhost
namespace Go.Proofs.YtlfjfendlohekabGreatDoor
open Go.RowKit

set_option maxHeartbeats 1000000 in
theorem power_see (a : Int) (K : Nat) (a1 : -9223372036854775808 ≤ a) (a2 : a ≤ 9223372036854775807) (hK : K ≤ 9223372036854775807) (w : World) :
    Calls Tryz.prog 63 #[.agg #[.int .i64 a, .int .i64 (K : Int)]] w fun e w' => ∃ n, e = .returned (.tuple #[.int .i64 n, .bool (fits (a ^ K))]) ∧ (fits (a ^ K) = true → n = a ^ K) ∧ Below w.heap.size w w' := by
  go_enter Tryz.func63, Tryz.ntmps63
  go_wp2
  go_quiet (fail)
  go_wp2_with fail
  refine (bits_len _ _ (by omega) (by omega)).mono ?_
  rintro e w1 ⟨rfl, rfl⟩
  have hl := bitLen_64 K (by omega)
  have ht := bitLen_top K (by omega)
  rw [Int.toNat_natCast]
  generalize Lib.bitLen K = L at hl ht ⊢
  go_wp2_with fail
  go_loopw [4, 5, 6] (fun n ok i wr => ∃ (q m : Int) (b : Bool), -1 ≤ q ∧ q ≤ 63 ∧ n = .int .i64 m ∧ ok = .bool b ∧ i = .int .i64 q ∧ -9223372036854775808 ≤ m ∧ m ≤ 9223372036854775807 ∧ (b = true → m = a ^ (K / 2 ^ (q + 1).toNat)) ∧ (b = false → ¬ In64 (a ^ K)) ∧ Below (w.heap.size + 1) (w.alloc (.cells #[.int .i64 a, .int .i64 (K : Int)] 107)) wr)
    (fun _ _ i _ => (intOf i + 1).toNat)
  case atStart => exact ⟨(L : Int) - 1, 1, true, by omega, by omega, rfl, rfl, rfl, by omega, by omega, fun _ => by rw [show ((L : Int) - 1 + 1).toNat = L by omega, ht]; simp, (fun h => by cases h), belowN (Below.refl _ _) _⟩
  case round =>
    obtain ⟨q, m, b, hq1, hq2, rfl, rfl, rfl, m1, m2, hy, hn, hb⟩ := hrel
    have c0 : wr.cell? ⟨w.heap.size, 0, none⟩ = some (.int .i64 a) := by rw [hb.cell (p := ⟨w.heap.size, 0, none⟩) (by simp)]; go_simp
    have c1 : wr.cell? ⟨w.heap.size, 1, none⟩ = some (.int .i64 (K : Int)) := by rw [hb.cell (p := ⟨w.heap.size, 1, none⟩) (by simp)]; go_simp
    have hbW : Below w.heap.size w wr := ((Below.refl _ _).alloc (Nat.le_refl _) _).trans (hb.mono (by omega))
    have hz : w.heap.size + 1 ≤ wr.heap.size := by have := hb.size; simpa using this
    cases b with
    | false =>
      have HF : Hid (fits (a ^ K) = false) := fits_no (hn rfl)
      clear hy hn hb
      go_wp2
      go_ret2
      exact ⟨m, by rw [HF.out]; rfl, (fun h => by rw [HF.out] at h; cases h), hbW⟩
    | true =>
      by_cases hq : q < 0
      · have hm := hy rfl
        rw [show (q + 1).toNat = 0 by omega] at hm
        simp only [Nat.pow_zero, Nat.div_one] at hm
        have HF : Hid (fits (a ^ K) = true) := by rw [← hm]; exact fits_mk ⟨m1, m2⟩
        have HM : Hid (m = a ^ K) := hm
        clear hy hn hb hm
        go_wp2
        go_ret2
        exact ⟨m, by rw [HF.out]; rfl, fun _ => HM.out, hbW⟩
      · have HY : Hid (m = a ^ (K / 2 ^ (q + 1).toNat)) := hy rfl
        clear hy hn
        have hst := half_step K (q + 1).toNat (by omega)
        rw [show (q + 1).toNat - 1 = q.toNat by omega] at hst
        have HST : Hid (K / 2 ^ q.toNat = 2 * (K / 2 ^ (q + 1).toNat) + K / 2 ^ q.toNat % 2) := hst
        clear hst
        obtain ⟨s, hs⟩ : ∃ s : Nat, s = K / 2 ^ q.toNat := ⟨_, rfl⟩
        have hs' : (K : Int) / 2 ^ q.toNat = (s : Int) := by rw [hs]; simp
        have hsle : s ≤ K := by rw [hs]; exact Nat.div_le_self _ _
        have HS : Hid (s = K / 2 ^ q.toNat) := hs
        clear hs
        have hbit : bits .and .i64 (s : Int) 1 = (s : Int) % 2 := by
          have := i64_mask (s : Int) 1 (by omega)
          simpa using this
        have later : ∀ w2, Below wr.heap.size wr w2 → w2.cell? ⟨w.heap.size, 0, none⟩ = some (.int .i64 a) ∧ w2.cell? ⟨w.heap.size, 1, none⟩ = some (.int .i64 (K : Int)) ∧ Below (w.heap.size + 1) (w.alloc (.cells #[.int .i64 a, .int .i64 (K : Int)] 107)) w2 ∧ w.heap.size + 1 ≤ w2.heap.size := fun w2 h =>
          ⟨(h.cell (p := ⟨w.heap.size, 0, none⟩) (show w.heap.size < wr.heap.size by omega)).trans c0, (h.cell (p := ⟨w.heap.size, 1, none⟩) (show w.heap.size < wr.heap.size by omega)).trans c1, hb.trans (h.mono hz), by have := h.size; omega⟩
        have LAT : Hid (∀ w2, Below wr.heap.size wr w2 → w2.cell? ⟨w.heap.size, 0, none⟩ = some (.int .i64 a) ∧ w2.cell? ⟨w.heap.size, 1, none⟩ = some (.int .i64 (K : Int)) ∧ Below (w.heap.size + 1) (w.alloc (.cells #[.int .i64 a, .int .i64 (K : Int)] 107)) w2 ∧ w.heap.size + 1 ≤ w2.heap.size) := later
        clear later hb hbW hsle
        by_cases hmm : In64 (m * m)
        · by_cases hodd : (s : Int) % 2 = 1
          · go_wp2_with fail
            refine (mul_fits m m m1 m2 m1 m2 hmm _).mono ?_
            rintro e w2 ⟨rfl, hb2⟩
            obtain ⟨d0, d1, hb3, hz3⟩ := LAT.out w2 hb2
            clear LAT
            go_wp2_with fail
            refine (mul_any (m * m) a hmm.1 hmm.2 a1 a2 _).mono ?_
            rintro e w3 ⟨rfl, hb4⟩
            have hb5 := hb3.trans (hb4.mono hz3)
            clear hb2 hb3 hb4
            go_wp2
            go_roundw
            case rel =>
              have e1 : m * m * a = a ^ (K / 2 ^ (q - 1 + 1).toNat) := by
                rw [show q - 1 + 1 = q by omega, HST.out, ← HS.out, show s % 2 = 1 by omega, pow_odd, ← HY.out]
              refine ⟨q - 1, _, _, by omega, by omega, rfl, rfl, rfl, (kept_bd _).1, (kept_bd _).2, fun h => ?_, fun h => ?_, hb5⟩
              · rw [kept_mk h]; exact e1
              · refine over_mono (e := K / 2 ^ (q - 1 + 1).toNat) (Nat.div_le_self _ _) ?_
                rw [← e1]
                intro hi
                rw [fits_mk hi] at h
                cases h
            case measure => simp [intOf]; omega
          · have hev : ((s : Int) % 2 == 1) = false := by simpa using hodd
            go_wp2_with fail
            refine (mul_fits m m m1 m2 m1 m2 hmm _).mono ?_
            rintro e w2 ⟨rfl, hb2⟩
            obtain ⟨d0, d1, hb3, hz3⟩ := LAT.out w2 hb2
            clear LAT hb2
            go_wp2
            go_roundw
            case rel =>
              have e1 : m * m = a ^ (K / 2 ^ (q - 1 + 1).toNat) := by
                rw [show q - 1 + 1 = q by omega, HST.out, ← HS.out, show s % 2 = 0 by omega, Nat.add_zero, pow_even, ← HY.out]
              exact ⟨q - 1, m * m, true, by omega, by omega, rfl, rfl, rfl, hmm.1, hmm.2, fun _ => e1, (fun h => by cases h), hb3⟩
            case measure => simp [intOf]; omega
        · go_wp2_with fail
          refine (mul_over m m m1 m2 m1 m2 hmm _).mono ?_
          rintro e w2 ⟨rfl, hb2⟩
          obtain ⟨d0, d1, hb3, hz3⟩ := LAT.out w2 hb2
          clear LAT hb2
          go_wp2
          go_roundw
          case rel =>
            have e1 : m * m = a ^ (2 * (K / 2 ^ (q + 1).toNat)) := by rw [pow_even, ← HY.out]
            refine ⟨q - 1, 0, false, by omega, by omega, rfl, rfl, rfl, by omega, by omega, (fun h => by cases h), fun _ => over_mono (e := 2 * (K / 2 ^ (q + 1).toNat)) ?_ ?_, hb3⟩
            · have := HST.out; have h2 : K / 2 ^ q.toNat ≤ K := Nat.div_le_self _ _; omega
            · rw [← e1]; exact hmm
          case measure => simp [intOf]; omega

set_option maxHeartbeats 400000 in
theorem pow_any (a : Int) (K : Nat) (a1 : -9223372036854775808 ≤ a) (a2 : a ≤ 9223372036854775807) (hK : K ≤ 9223372036854775807) (w : World) :
    Calls Tryz.prog 31 #[.int .i64 a, .int .i64 (K : Int)] w fun e w' => e = .returned (.tuple #[.int .i64 (kept (a ^ K)), .bool (fits (a ^ K))]) ∧ Below w.heap.size w w' := by
  have hmf := hmf
  cases hf : fits (a ^ K) with
  | true =>
    have HK : Hid (kept (a ^ K) = a ^ K) := kept_mk hf
    go_enter Tryz.func31, Tryz.ntmps31
    go_wp2_with (first | (go_at_call 63; refine (power_see a K a1 a2 hK _).mono ?_; rintro e w1 ⟨n, rfl, hn, hb⟩; have hn' : Hid (n = a ^ K) := hn hf; clear hn) | go_in)
    go_ret2
    exact ⟨by rw [HK.out, ← hn'.out]; rfl, hb⟩
  | false =>
    have HK : Hid (kept (a ^ K) = 0) := kept_no hf
    go_enter Tryz.func31, Tryz.ntmps31
    go_wp2_with (first | (go_at_call 63; refine (power_see a K a1 a2 hK _).mono ?_; rintro e w1 ⟨n, rfl, hn, hb⟩; clear hn) | go_in)
    go_ret2
    exact ⟨by rw [HK.out]; rfl, hb⟩

end Go.Proofs.YtlfjfendlohekabGreatDoor
