/-
  Sixteen digits read again: what the document's own Unhex and Unword tell of a text, for every text of at most 2^48 bytes, in whatever memory.
-/
import Derived.Test.YtlipbdiijjfheaaGreatDoorRHex
import Derived.Test.YtlipbdiijjfheaaGreatDoorRWCell
namespace Go.Proofs.YtlipbdiijjfheaaGreatDoor
open Go.RowKit

theorem hexb_low (m : Nat) (h : m < 10) : (hexb m).toNat = 48 + m := by unfold hexb; rw [if_pos h]; simp; omega
theorem hexb_high (m : Nat) (h : ¬ m < 10) (h2 : m < 16) : (hexb m).toNat = 87 + m := by unfold hexb; rw [if_neg h]; simp; omega
/-- Which bytes are a digit's letter. -/
theorem hexb_of_low {c : UInt8} (h1 : 48 ≤ c.toNat) (h2 : c.toNat ≤ 57) : c = hexb (c.toNat - 48) := by
  apply UInt8.toNat_inj.1; rw [hexb_low _ (by omega)]; omega
theorem hexb_of_high {c : UInt8} (h1 : 97 ≤ c.toNat) (h2 : c.toNat ≤ 102) : c = hexb (c.toNat - 97 + 10) := by
  apply UInt8.toNat_inj.1; rw [hexb_high _ (by omega) (by omega)]; omega
theorem hexb_none {c : UInt8} (h1 : ¬ (48 ≤ c.toNat ∧ c.toNat ≤ 57)) (h2 : ¬ (97 ≤ c.toNat ∧ c.toNat ≤ 102)) (m : Nat) (h : m < 16) : c ≠ hexb m := by
  rintro rfl
  by_cases hm : m < 10
  · rw [hexb_low m hm] at h1; omega
  · rw [hexb_high m hm h] at h2; omega
theorem hexF_snoc (k n d : Nat) (hd : d < 16) : hexF (k + 1) (n * 16 + d) = hexF k n ++ [hexb d] := by
  apply List.ext_getElem
  · simp [hexF_len]
  · intro i h1 h2
    rw [hexF_len] at h1
    rw [hexF_at, List.getElem_append]
    split
    · rename_i hi
      rw [hexF_len] at hi
      rw [hexF_at, show k + 1 - 1 - i = (k - 1 - i) + 1 by omega]
      unfold hexAt
      rw [Nat.pow_succ, Nat.mul_comm (16 ^ _) 16, ← Nat.div_div_eq_div_mul, show (n * 16 + d) / 16 = n by omega]
    · rename_i hi
      rw [hexF_len] at hi
      rw [show k + 1 - 1 - i = 0 by omega]
      unfold hexAt
      rw [Nat.pow_zero, Nat.div_one, show (n * 16 + d) % 16 = d by omega]
      simp
/-- The byte at a place of a word's text. -/
theorem text16_at {s : ByteArray} {u : Nat} (h : s = text16 u) (k : Nat) (hk : k < 16) : s.data.toList[k]? = some (hexb (u / 16 ^ (15 - k) % 16)) := by
  subst h
  have : (text16 u).data.toList = hexF 16 u := by simp [text16]
  rw [this, List.getElem?_eq_getElem (by rw [hexF_len]; exact hk), hexF_at]
  rfl
theorem text16_list {s : ByteArray} {u : Nat} (h : s.data.toList = hexF 16 u) : s = text16 u := by
  apply ByteArray.ext
  apply Array.toList_inj.1
  rw [h]; simp [text16]
theorem str_at (s : ByteArray) (k : Nat) (hk : k < s.size) (w : World) : (Instr.index 9 (.string s) (.int .i64 (k : Int))).run Tryz.prog w = .ok (.int .u8 ((s[k]).toNat : Int)) w := by
  rw [run_index_string w 9 s .i64 (k : Int) Tryz.underlying9, dif_pos ⟨by omega, by omega⟩]
  rfl
theorem str_list (s : ByteArray) (k : Nat) (hk : k < s.size) : s.data.toList[k]? = some s[k] ∧ s.data.toList.take (k + 1) = s.data.toList.take k ++ [s[k]] := by
  have hl : k < s.data.toList.length := by simpa using hk
  have h : s.data.toList[k]? = some s[k] := by rw [List.getElem?_eq_getElem hl]; simp; rfl
  exact ⟨h, by rw [List.take_add_one, h]; rfl⟩
theorem shl_math (n d : Nat) (hd : d < 16) : ∃ X : Int, IntKind.u64.wrap ((n : Int) * 16) = X ∧ bits .or .u64 X (d : Int) = ((n * 16 % 18446744073709551616 + d : Nat) : Int) := by
  refine ⟨_, rfl, ?_⟩
  have e : IntKind.u64.wrap ((n : Int) * 16) = ((n * 16 % 18446744073709551616 : Nat) : Int) := by rw [IntKind.wrap_u64]; omega
  rw [e, u64_join (p := 16) (i := 4) ⟨by omega, by omega⟩ (by decide) (by omega) (by omega) (by omega) (by omega)]
  omega
theorem pow16_box {k : Nat} (h : k < 16) : 16 ^ k ≤ 1152921504606846976 := by
  have := Nat.pow_le_pow_right (show 0 < 16 by omega) (show k ≤ 15 by omega)
  simpa using this

set_option maxHeartbeats 4000000 in
theorem unhex_core (s : ByteArray) (hs : s.size ≤ 281474976710656) (w : World) :
    Calls Tryz.prog 49 #[.string s] w fun e w' => (∃ (m : Nat) (b : Bool), e = .returned (.tuple #[.int .u64 (m : Int), .bool b]) ∧ m < 18446744073709551616 ∧ ((b = true ∧ s = text16 m) ∨ (b = false ∧ ∀ u, s ≠ text16 u))) ∧ Below w.heap.size w w' := by
  go_enter Tryz.func49, Tryz.ntmps49
  go_wp2_with fail
  go_loopw [4, 5] (fun v4 v5 wr => ∃ (k n : Nat), k ≤ s.size ∧ n < 18446744073709551616 ∧ v4 = .int .u64 (n : Int) ∧ v5 = .int .i64 (k : Int) ∧ Hid (k ≤ 16 → n < 16 ^ k ∧ s.data.toList.take k = hexF k n) ∧ Below w.heap.size w wr) (fun _ v5 _ => s.size - (intOf v5).toNat)
  case atStart => exact ⟨0, 0, by omega, by omega, rfl, rfl, fun _ => ⟨by simp, rfl⟩, by go_grown⟩
  case round =>
    obtain ⟨k, n, hk, hn, rfl, rfl, hh, hB⟩ := hrel
    by_cases hlt : k < s.size
    · have hX := str_at s k hlt
      obtain ⟨hl1, hl2⟩ := str_list s k hlt
      replace hl1 : Hid _ := hl1
      replace hl2 : Hid _ := hl2
      generalize s[k] = c at *
      have hc256 : c.toNat < 256 := c.toNat_lt
      by_cases hA : 48 ≤ c.toNat ∧ c.toNat ≤ 57
      · obtain ⟨X, eX, eO⟩ := shl_math n (c.toNat - 48) (by omega)
        have hcb := hexb_of_low hA.1 hA.2
        have hd16 : c.toNat - 48 < 16 := by omega
        obtain ⟨a1, a2⟩ := hA
        have eZ : (c.toNat : Int) - 48 = ((c.toNat - 48 : Nat) : Int) := by omega
        obtain ⟨z, hz⟩ : ∃ z : Int, (c.toNat : Int) = z := ⟨_, rfl⟩
        have z1 : 48 ≤ z := by omega
        have z2 : z ≤ 57 := by omega
        rw [hz] at hX eZ
        generalize c.toNat - 48 = d at *
        rw [← eZ] at eO
        have hY : n * 16 % 18446744073709551616 + d < 18446744073709551616 := by omega
        have hY2 : Hid (k < 16 → n * 16 % 18446744073709551616 + d = n * 16 + d) := fun h => by
          have h1 := (hh.out (by omega)).1
          have h2 := pow16_box h
          omega
        generalize n * 16 % 18446744073709551616 + d = Y at *
        have hn0 : Hid _ := hn
        clear hz a1 a2 hc256 hn hk
        have hrel2 : Hid (k + 1 ≤ 16 → Y < 16 ^ (k + 1) ∧ s.data.toList.take (k + 1) = hexF (k + 1) Y) := fun h => by
          have h1 := hh.out (by omega)
          rw [hY2.out (by omega), hexF_snoc _ _ _ hd16, ← hcb, ← h1.2]
          exact ⟨by rw [Nat.pow_succ]; omega, hl2.out⟩
        clear hh hY2 hcb hl1 hl2 eZ hd16
        go_wp2
        go_roundw
        case rel => exact ⟨k + 1, Y, by omega, hY, by go_num, by go_num, hrel2, hB⟩
        case measure => simp [intOf]; omega
      · by_cases hC : 97 ≤ c.toNat ∧ c.toNat ≤ 102
        · obtain ⟨X, eX, eO⟩ := shl_math n (c.toNat - 97 + 10) (by omega)
          have hcb := hexb_of_high hC.1 hC.2
          have hd16 : c.toNat - 97 + 10 < 16 := by omega
          obtain ⟨a1, a2⟩ := hC
          have eZ : (c.toNat : Int) - 97 + 10 = ((c.toNat - 97 + 10 : Nat) : Int) := by omega
          obtain ⟨z, hz⟩ : ∃ z : Int, (c.toNat : Int) = z := ⟨_, rfl⟩
          have z1 : 97 ≤ z := by omega
          have z2 : z ≤ 102 := by omega
          have z3 : 48 ≤ z := by omega
          have z4 : decide (z ≤ 57) = false := df (by omega)
          rw [hz] at hX eZ
          generalize c.toNat - 97 + 10 = d at *
          rw [← eZ] at eO
          have hY : n * 16 % 18446744073709551616 + d < 18446744073709551616 := by omega
          have hY2 : Hid (k < 16 → n * 16 % 18446744073709551616 + d = n * 16 + d) := fun h => by
            have h1 := (hh.out (by omega)).1
            have h2 := pow16_box h
            omega
          generalize n * 16 % 18446744073709551616 + d = Y at *
          have hn0 : Hid _ := hn
          clear hz a1 a2 hc256 hn hk hA
          have hrel2 : Hid (k + 1 ≤ 16 → Y < 16 ^ (k + 1) ∧ s.data.toList.take (k + 1) = hexF (k + 1) Y) := fun h => by
            have h1 := hh.out (by omega)
            rw [hY2.out (by omega), hexF_snoc _ _ _ hd16, ← hcb, ← h1.2]
            exact ⟨by rw [Nat.pow_succ]; omega, hl2.out⟩
          clear hh hY2 hcb hl1 hl2 eZ hd16
          go_wp2
          go_roundw
          case rel => exact ⟨k + 1, Y, by omega, hY, by go_num, by go_num, hrel2, hB⟩
          case measure => simp [intOf]; omega
        · have hno : Hid (∀ u, s ≠ text16 u) := fun u e => by
            by_cases hk16 : k < 16
            · have h1 := text16_at e k hk16
              rw [hl1.out] at h1
              exact hexb_none hA hC _ (Nat.mod_lt _ (by omega)) (Option.some.inj h1)
            · have h1 : s.size = 16 := by rw [e]; exact text16_size u
              omega
          obtain ⟨z, hz⟩ : ∃ z : Int, (c.toNat : Int) = z := ⟨_, rfl⟩
          rw [hz] at hX
          have hq : (decide (48 ≤ z) = false ∧ decide (97 ≤ z) = false) ∨ (decide (48 ≤ z) = true ∧ decide (z ≤ 57) = false ∧ decide (97 ≤ z) = false) ∨ (decide (48 ≤ z) = true ∧ decide (z ≤ 57) = false ∧ decide (97 ≤ z) = true ∧ decide (z ≤ 102) = false) := by
            simp only [decide_eq_true_eq, decide_eq_false_iff_not]
            omega
          clear hz hA hC hc256 hl1 hl2 hh hn hk
          rcases hq with ⟨q1, q2⟩ | ⟨q1, q2, q3⟩ | ⟨q1, q2, q3, q4⟩
          all_goals
            go_wp2
            go_ret2
            exact ⟨⟨0, false, rfl, by omega, .inr ⟨rfl, hno.out⟩⟩, hB⟩
    · obtain rfl : k = s.size := by omega
      by_cases h16 : s.size = 16
      · have hyes : Hid (s = text16 n) := by
          have h1 := (hh.out (by omega)).2
          rw [h16] at h1
          apply text16_list
          rw [← h1, List.take_of_length_le (by simp [h16])]
        have e16 : ((s.size : Int) == 16) = true := by simp [h16]; done
        clear hh h16 hs
        go_wp2
        go_ret2
        exact ⟨⟨n, true, rfl, hn, .inl ⟨rfl, hyes.out⟩⟩, hB⟩
      · have hno : Hid (∀ u, s ≠ text16 u) := fun u e => h16 (by rw [e]; exact text16_size u)
        have e16 : ((s.size : Int) == 16) = false := by simp; omega
        clear hh h16 hs
        go_wp2
        go_ret2
        exact ⟨⟨n, false, rfl, hn, .inr ⟨rfl, hno.out⟩⟩, hB⟩

/-- UNHEX of a word's text. -/
theorem unhex_yes (u : Nat) (hu : u < 18446744073709551616) (w : World) :
    Calls Tryz.prog 49 #[.string (text16 u)] w fun e w' => e = .returned (.tuple #[.int .u64 (u : Int), .bool true]) ∧ Below w.heap.size w w' := by
  refine (unhex_core (text16 u) (by rw [text16_size]; omega) w).mono ?_
  rintro e w' ⟨⟨m, b, rfl, hm, (⟨rfl, h⟩ | ⟨rfl, h⟩)⟩, hb⟩
  · rw [text16_inj hu hm h]; exact ⟨rfl, hb⟩
  · exact absurd rfl (h u)
theorem unhex_no (s : ByteArray) (hs : s.size ≤ 281474976710656) (h : ∀ u, u < 18446744073709551616 → s ≠ text16 u) (w : World) :
    Calls Tryz.prog 49 #[.string s] w fun e w' => (∃ m : Int, e = .returned (.tuple #[.int .u64 m, .bool false])) ∧ Below w.heap.size w w' := by
  refine (unhex_core s hs w).mono ?_
  rintro e w' ⟨⟨m, b, rfl, hm, (⟨rfl, h2⟩ | ⟨rfl, h2⟩)⟩, hb⟩
  · exact absurd h2 (h m hm)
  · exact ⟨⟨m, rfl⟩, hb⟩

set_option maxHeartbeats 1000000 in
theorem unword_yes (u : Nat) (hu : u < 18446744073709551616) (h : Whole (u : Int)) (w : World) :
    Calls Tryz.prog 25 #[.string (text16 u)] w fun e w' => e = .returned (.tuple #[.int .u64 (u : Int), .int .i64 0]) ∧ Below w.heap.size w w' := by
  have U : Hid _ := unhex_yes u hu
  have I : Hid _ := risword_yes (u : Int) h
  generalize text16 u = s at *
  clear h hu
  go_enter Tryz.func25, Tryz.ntmps25
  go_wp2_with fail
  refine (U.out _).mono ?_
  rintro e w1 ⟨rfl, d1⟩
  have c1 : Below w.heap.size w w1 := Below.trans (by go_grown) (d1.mono (by simp; try omega))
  have hB := c1
  clear c1 d1
  go_wp2_with fail
  refine (I.out _).mono ?_
  rintro e w2 ⟨rfl, d2⟩
  have c2 : Below w1.heap.size w1 w2 := Below.trans (by go_grown) (d2.mono (by simp; try omega))
  replace hB := belowT hB c2
  clear c2 d2
  go_wp2
  go_ret2
  exact ⟨rfl, hB⟩
set_option maxHeartbeats 1000000 in
theorem unword_bad (u : Nat) (hu : u < 18446744073709551616) (h : ¬ Whole (u : Int)) (w : World) :
    Calls Tryz.prog 25 #[.string (text16 u)] w fun e w' => e = .returned (.tuple #[.int .u64 0, .int .i64 5]) ∧ Below w.heap.size w w' := by
  have U : Hid _ := unhex_yes u hu
  have I : Hid _ := risword_no (u : Int) ⟨by omega, by omega⟩ h
  generalize text16 u = s at *
  clear h hu
  go_enter Tryz.func25, Tryz.ntmps25
  go_wp2_with fail
  refine (U.out _).mono ?_
  rintro e w1 ⟨rfl, d1⟩
  have c1 : Below w.heap.size w w1 := Below.trans (by go_grown) (d1.mono (by simp; try omega))
  have hB := c1
  clear c1 d1
  go_wp2_with fail
  refine (I.out _).mono ?_
  rintro e w2 ⟨rfl, d2⟩
  have c2 : Below w1.heap.size w1 w2 := Below.trans (by go_grown) (d2.mono (by simp; try omega))
  replace hB := belowT hB c2
  clear c2 d2
  go_wp2
  go_ret2
  exact ⟨rfl, hB⟩
set_option maxHeartbeats 1000000 in
theorem unword_no (s : ByteArray) (hs : s.size ≤ 281474976710656) (h : ∀ u, u < 18446744073709551616 → s ≠ text16 u) (w : World) :
    Calls Tryz.prog 25 #[.string s] w fun e w' => e = .returned (.tuple #[.int .u64 0, .int .i64 6]) ∧ Below w.heap.size w w' := by
  have U : Hid _ := unhex_no s hs h
  clear h hs
  go_enter Tryz.func25, Tryz.ntmps25
  go_wp2_with fail
  refine (U.out _).mono ?_
  rintro e w1 ⟨⟨m, rfl⟩, d1⟩
  have c1 : Below w.heap.size w w1 := Below.trans (by go_grown) (d1.mono (by simp; try omega))
  have hB := c1
  clear c1 d1
  go_wp2
  go_ret2
  exact ⟨rfl, hB⟩
end Go.Proofs.YtlipbdiijjfheaaGreatDoor
