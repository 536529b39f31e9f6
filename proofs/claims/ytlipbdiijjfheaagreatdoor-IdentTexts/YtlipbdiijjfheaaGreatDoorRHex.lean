/-
  What the document's own Hex16 tells: sixteen digits in base 16; for any number of 64 bits without a sign, in whatever memory.
-/
import Derived.Test.YtlipbdiijjfheaaGreatDoorIText
namespace Go.Proofs.YtlipbdiijjfheaaGreatDoor
open Go.RowKit

/-- The first j digits. -/
def preH (u j : Nat) : ByteArray := ⟨((hexF 16 u).take j).toArray⟩
theorem preH_zero (u : Nat) : preH u 0 = ⟨#[]⟩ := rfl
theorem preH_all (u : Nat) : preH u 16 = text16 u := by
  unfold preH text16
  rw [List.take_of_length_le (by rw [hexF_len]; omega)]
theorem preH_size (u j : Nat) (h : j ≤ 16) : (preH u j).size = j := by
  unfold preH
  simp [ByteArray.size, hexF_len]
  omega
theorem preH_step (u j : Nat) (h : j < 16) : preH u j ++ (⟨#[hexAt u (15 - j)]⟩ : ByteArray) = preH u (j + 1) := by
  unfold preH
  apply ByteArray.ext
  rw [ByteArray.data_append]
  show ((hexF 16 u).take j).toArray ++ #[hexAt u (15 - j)] = ((hexF 16 u).take (j + 1)).toArray
  have hl : j < (hexF 16 u).length := by rw [hexF_len]; exact h
  rw [List.take_succ_eq_append_getElem hl, hexF_at]
  simp
def dig16 : ByteArray := ⟨#[48, 49, 50, 51, 52, 53, 54, 55, 56, 57, 97, 98, 99, 100, 101, 102]⟩
theorem dig16_cut (m : Nat) (h : m < 16) : (⟨#[48, 49, 50, 51, 52, 53, 54, 55, 56, 57, 97, 98, 99, 100, 101, 102]⟩ : ByteArray).extract m (m + 1) = ⟨#[hexb m]⟩ := by
  rcases (show m = 0 ∨ m = 1 ∨ m = 2 ∨ m = 3 ∨ m = 4 ∨ m = 5 ∨ m = 6 ∨ m = 7 ∨ m = 8 ∨ m = 9 ∨ m = 10 ∨ m = 11 ∨ m = 12 ∨ m = 13 ∨ m = 14 ∨ m = 15 by omega) with rfl | rfl | rfl | rfl | rfl | rfl | rfl | rfl | rfl | rfl | rfl | rfl | rfl | rfl | rfl | rfl <;> decide +kernel
set_option maxHeartbeats 4000000 in
theorem rhex16 (u : Nat) (hu : u < 18446744073709551616) (w : World) :
    Calls Tryz.prog 16 #[.int .u64 (u : Int)] w fun e w' => e = .returned (.string (text16 u)) ∧ Below w.heap.size w w' := by
  go_enter Tryz.func16, Tryz.ntmps16
  go_wp2_with fail
  go_loopw [3, 4] (fun v3 v4 wr => ∃ (j : Nat) (I : Int), j ≤ 16 ∧ v3 = .string (preH u j) ∧ v4 = .int .i64 I ∧ Hid (I = 15 - (j : Int)) ∧ Below w.heap.size w wr) (fun _ v4 _ => (intOf v4 + 1).toNat)
  case atStart => exact ⟨0, 15, by omega, by rw [preH_zero], rfl, by show _ = _; omega, by go_grown⟩
  case round =>
    obtain ⟨j, I, hj, rfl, rfl, hI, hB⟩ := hrel
    by_cases hlt : j < 16
    · have hI' := hI.out
      have I0 : 0 ≤ I := by omega
      have I1 : I ≤ 15 := by omega
      obtain ⟨D, eD⟩ : ∃ D, 4 * I = D := ⟨_, rfl⟩
      have D0 : ¬ D < 0 := by omega
      have D1 : D ≤ 60 := by omega
      have eDn : D.toNat = 4 * (15 - j) := by omega
      obtain ⟨p, hp⟩ : ∃ p : Int, ((16 ^ (15 - j) : Nat) : Int) = p := ⟨_, rfl⟩
      have ep : (2 : Int) ^ D.toNat = p := by rw [eDn, Int.pow_mul, ← hp]; simp
      have ep' : (2 : Int) ^ min D.toNat 64 = p := by rw [show min D.toNat 64 = D.toNat by omega]; exact ep
      obtain ⟨X, eX⟩ : ∃ X, (u : Int) / p = X := ⟨_, rfl⟩
      have hdle := Nat.div_le_self u (16 ^ (15 - j))
      have eXn : X = ((u / 16 ^ (15 - j) : Nat) : Int) := by rw [← eX, ← hp]; simp
      have hc0 : hexAt u (15 - j) = hexb (u / 16 ^ (15 - j) % 16) := rfl
      generalize u / 16 ^ (15 - j) = Y at *
      obtain ⟨m, hm⟩ : ∃ m, Y % 16 = m := ⟨_, rfl⟩
      have e15 : bits .and .u64 X 15 = (m : Int) := by rw [umask4 X ⟨by omega, by omega⟩]; omega
      have hm16 : m < 16 := by omega
      have hm16i : (m : Int) < 16 := by omega
      have hcut := dig16_cut m hm16
      have hc : hexb m = hexAt u (15 - j) := by rw [hc0, hm]
      rw [hc] at hcut
      have hstep := preH_step u j hlt
      have hsz : (preH u j).size = j := preH_size u j hj
      have hsz2 : ¬ 9223372036854775807 < j + 1 := by omega
      have hsz3 : (⟨#[hexAt u (15 - j)]⟩ : ByteArray).size = 1 := rfl
      clear hc hc0 hm eXn hdle eDn hp hI'
      generalize hexAt u (15 - j) = cc at *
      go_wp2
      go_roundw
      case rel => exact ⟨j + 1, I - 1, by omega, rfl, rfl, by have := hI.out; show _ = _; omega, hB⟩
      case measure => simp [intOf]; omega
    · obtain rfl : j = 16 := by omega
      have hI' := hI.out
      have I0 : decide (0 ≤ I) = false := df (by omega)
      rw [preH_all]
      clear hI hI'
      go_wp2
      go_ret
      exact ⟨rfl, hB⟩

theorem hexb_inj : ∀ i j : Fin 16, hexb i.val = hexb j.val → i = j := by decide +kernel
theorem hex_all : ∀ (n a b : Nat), a < 16 ^ n → b < 16 ^ n → (∀ j < n, a / 16 ^ j % 16 = b / 16 ^ j % 16) → a = b
  | 0, a, b, ha, hb, _ => by simp at ha hb; omega
  | n + 1, a, b, ha, hb, h => by
    have h0 := h 0 (by omega)
    simp only [Nat.pow_zero, Nat.div_one] at h0
    have ih := hex_all n (a / 16) (b / 16) (by rw [Nat.pow_succ] at ha; omega) (by rw [Nat.pow_succ] at hb; omega) (fun j hj => by
      have := h (j + 1) (by omega)
      rwa [Nat.pow_succ, Nat.mul_comm, ← Nat.div_div_eq_div_mul, ← Nat.div_div_eq_div_mul] at this)
    omega
/-- Unlike words have unlike texts. -/
theorem text16_inj {a b : Nat} (ha : a < 18446744073709551616) (hb : b < 18446744073709551616) (h : text16 a = text16 b) : a = b := by
  have hl : hexF 16 a = hexF 16 b := by
    have := congrArg (fun s : ByteArray => s.data.toList) h
    simpa [text16] using this
  apply hex_all 16 a b (by omega) (by omega)
  intro j hj
  have h1 : (hexF 16 a)[15 - j]'(by rw [hexF_len]; omega) = (hexF 16 b)[15 - j]'(by rw [hexF_len]; omega) := by simp only [hl]
  rw [hexF_at, hexF_at, show 16 - 1 - (15 - j) = j by omega] at h1
  unfold hexAt at h1
  have h2 := hexb_inj ⟨a / 16 ^ j % 16, by omega⟩ ⟨b / 16 ^ j % 16, by omega⟩ h1
  simpa using h2
theorem text16_size (u : Nat) : (text16 u).size = 16 := by simp [text16, ByteArray.size, hexF_len]
end Go.Proofs.YtlipbdiijjfheaaGreatDoor
