/-
  Plain facts on a word's seven children: their words, that they rise, that families do not mix.
-/
import Derived.Test.YtogkfmoediiieaaMC
import Derived.Test.YtogkfmoediiieaaProg
import Derived.Handy
import Derived.Deep.QuietTactic
import Derived.WalkSpells
import Derived.WalkLawsBesides
import Derived.BigQuiet
import Derived.PlainAid
import Derived.Deep.RegionWith
import Derived.Laws.BitsAllLaws
namespace Go.Proofs.Ytogkfmoediiieaa
open Go.RowKit

/-- The word of a word's child. -/
def chW (v : Int) (d : Nat) : Int := v + 72057594037927936 - (7 - (d : Int)) * 8 ^ (11 - (wR v).toNat)

theorem child_word {v : Int} (h : Whole v) (hr : wR v < 12) {d : Nat} (hd : d ≤ 6) :
    Ok4 (((wR v).toNat + 1 : Nat) : Int) (chA (d : Int) (cellA v) (cellB v)) (chB (d : Int) (cellA v) (cellB v)) ∧ wordOf ((wR v).toNat + 1) (chA (d : Int) (cellA v) (cellB v)) (chB (d : Int) (cellA v) (cellB v)) = chW v d := by
  have hb := wR_box v
  have hc := ok4_child (cell_ok h) hr (show 0 ≤ (d : Int) by omega) (show (d : Int) ≤ 6 by omega)
  rw [show wR v + 1 = (((wR v).toNat + 1 : Nat) : Int) by omega] at hc
  refine ⟨hc, ?_⟩
  have hp := par_one (P := cellA v) (Q := cellB v) (show 0 ≤ (d : Int) by omega) (show (d : Int) ≤ 6 by omega)
  have hu := raised_word hc (by omega)
  rw [hp.2.1, hp.2.2, Nat.add_sub_cancel, word_cell h] at hu
  have hw := word_parts hc
  have hdg := hw.2.2.2.2.1 ((wR v).toNat + 1) (by omega) (by omega)
  unfold dgs at hdg
  rw [if_pos (Nat.le_refl _), Nat.sub_self] at hdg
  unfold upW setD at hu
  rw [hw.2.1] at hu
  rw [show (((wR v).toNat + 1 : Nat) : Int).toNat = (wR v).toNat + 1 by omega, hdg] at hu
  rw [show ups 0 (chA (d : Int) (cellA v) (cellB v)) (chB (d : Int) (cellA v) (cellB v)) = (chA (d : Int) (cellA v) (cellB v), chB (d : Int) (cellA v) (cellB v)) from rfl] at hu
  simp only at hu
  rw [hp.1, show 12 - ((wR v).toNat + 1) = 11 - (wR v).toNat by omega] at hu
  unfold chW
  rw [Int.sub_mul]
  omega

theorem chW_whole {v : Int} (h : Whole v) (hr : wR v < 12) {d : Nat} (hd : d ≤ 6) : Whole (chW v d) ∧ wR (chW v d) = wR v + 1 := by
  have hb := wR_box v
  have hc := child_word h hr hd
  have hp := word_parts hc.1
  rw [hc.2] at hp
  exact ⟨hp.1, by rw [hp.2.1]; omega⟩

/-- Words of one size are alike below their digits. -/
theorem word_foot {a : Int} {n : Nat} (h : Whole a) (hn : wR a = (n : Int)) : ∀ k, k ≤ 12 - n → a % 8 ^ k = 8 ^ k - 1
  | 0, _ => by simp
  | k + 1, hk => by
    have ih := word_foot h hn k (by omega)
    have hd : dg a (12 - k) = 7 := (h.2.2 (12 - k) (by omega) (by omega)).2 (by rw [hn]; omega)
    unfold dg at hd
    rw [show 12 - (12 - k) = k by omega] at hd
    have hp : (0 : Int) < 8 ^ k := Int.pow_pos (by omega)
    rw [Int.pow_succ]
    generalize (8 : Int) ^ k = p at *
    have e1 := Int.mul_ediv_add_emod a p
    have e2 := Int.mul_ediv_add_emod (a / p) 8
    rw [hd] at e2
    rw [ih] at e1
    generalize a / p = q at *
    generalize q / 8 = s at *
    have e3 : a = (p * 8 - 1) + p * 8 * s := by rw [← e1, ← e2, Int.mul_add, Int.mul_assoc]; omega
    rw [e3, Int.add_mul_emod_self_left]
    exact Int.emod_eq_of_lt (by omega) (by omega)

theorem word_apart {a b : Int} {n : Nat} (ha : Whole a) (hb : Whole b) (na : wR a = (n : Int)) (nb : wR b = (n : Int)) (hne : a ≠ b) : a + 8 ^ (12 - n) ≤ b ∨ b + 8 ^ (12 - n) ≤ a := by
  have e1 := word_foot ha na (12 - n) (Nat.le_refl _)
  have e2 := word_foot hb nb (12 - n) (Nat.le_refl _)
  have hp : (0 : Int) < 8 ^ (12 - n) := Int.pow_pos (by omega)
  generalize (8 : Int) ^ (12 - n) = p at *
  have f1 := Int.mul_ediv_add_emod a p
  have f2 := Int.mul_ediv_add_emod b p
  rw [e1] at f1
  rw [e2] at f2
  generalize a / p = q at *
  generalize b / p = s at *
  rcases (show q = s ∨ q + 1 ≤ s ∨ s + 1 ≤ q by omega) with rfl | h | h
  · exact absurd (by omega) hne
  · have := Int.mul_le_mul_of_nonneg_left h (show 0 ≤ p by omega)
    rw [Int.mul_add] at this
    omega
  · have := Int.mul_le_mul_of_nonneg_left h (show 0 ≤ p by omega)
    rw [Int.mul_add] at this
    omega

theorem up_kid {v : Int} (h : Whole v) (hr : wR v < 12) {d : Nat} (hd : d ≤ 6) : upW (chW v d) = v := by
  have hc := child_word h hr hd
  have hp := par_one (P := cellA v) (Q := cellB v) (show 0 ≤ (d : Int) by omega) (show (d : Int) ≤ 6 by omega)
  have hu := raised_word hc.1 (by omega)
  rw [hp.2.1, hp.2.2, Nat.add_sub_cancel, word_cell h, hc.2] at hu
  exact hu

/-- The seven of a word. -/
def kidRow (v : Int) : List Int := (List.range 7).map (chW v)

theorem kidRow_len (v : Int) : (kidRow v).length = 7 := by simp [kidRow]

theorem kidRow_mem {v x : Int} : x ∈ kidRow v ↔ ∃ d : Nat, d ≤ 6 ∧ x = chW v d := by
  unfold kidRow
  rw [List.mem_map]
  constructor
  · rintro ⟨d, hd, rfl⟩; exact ⟨d, by have := List.mem_range.1 hd; omega, rfl⟩
  · rintro ⟨d, hd, rfl⟩; exact ⟨d, List.mem_range.2 (by omega), rfl⟩

theorem kids_rise {v : Int} {d e : Nat} (h : d < e) (_ : e ≤ 6) : chW v d < chW v e := by
  unfold chW
  have hp : (0 : Int) < 8 ^ (11 - (wR v).toNat) := Int.pow_pos (by omega)
  generalize (8 : Int) ^ (11 - (wR v).toNat) = p at *
  have := Int.mul_lt_mul_of_pos_right (show (7 - (e : Int)) < 7 - (d : Int) by omega) hp
  omega

theorem kids_apart {u v : Int} {n d e : Nat} (hu : Whole u) (hv : Whole v) (nu : wR u = (n : Int)) (nv : wR v = (n : Int)) (hn : n < 12) (h : u < v) (hd : d ≤ 6) (_ : e ≤ 6) : chW u d < chW v e := by
  have ha := word_apart hu hv nu nv (by omega)
  have e8 : (8 : Int) ^ (12 - n) = 8 * 8 ^ (11 - n) := by rw [show 12 - n = 11 - n + 1 by omega, Int.pow_succ, Int.mul_comm]
  rw [e8] at ha
  unfold chW
  rw [nu, nv, show ((n : Int)).toNat = n by omega]
  have hp : (0 : Int) < 8 ^ (11 - n) := Int.pow_pos (by omega)
  generalize (8 : Int) ^ (11 - n) = p at *
  have h1 := Int.mul_le_mul_of_nonneg_right (show (1 : Int) ≤ 7 - (d : Int) by omega) (show 0 ≤ p by omega)
  have h2 := Int.mul_le_mul_of_nonneg_right (show 7 - (e : Int) ≤ 7 by omega) (show 0 ≤ p by omega)
  omega

end Go.Proofs.Ytogkfmoediiieaa
