/-
  Plain facts on which lists of bytes are a number's numeral, by a sign ahead and digits behind it; for any list and any number.
-/
import Derived.Test.YtghhgihfgoenjaaDoorTextNum
import Derived.PlainAid
import Derived.Lib.Strings
namespace Go.Proofs.YtghhgihfgoenjaaDoor
open Go.RowKit Go.PlainAid

/-- The digits are those of the number below nought, or of the number from nought on. -/
def CanonD (neg : Bool) (l : List UInt8) (v : Int) : Prop := In64 v ∧ (if neg = true then v < 0 ∧ Lib.decDigits v.natAbs = l else 0 ≤ v ∧ Lib.decDigits v.toNat = l)

theorem canon_neg (l : List UInt8) (v : Int) : Canon (45 :: l) v ↔ CanonD true l v := by
  unfold Canon CanonD Lib.itoa
  rw [if_pos rfl]
  by_cases hv : v < 0
  · rw [if_pos hv]
    constructor
    · exact fun h => ⟨h.1, hv, (List.cons.inj h.2).2⟩
    · exact fun h => ⟨h.1, by rw [h.2.2]⟩
  · rw [if_neg hv]
    constructor
    · intro h
      exfalso
      have hd : Dig 45 := digits_dig v.toNat 45 (by rw [h.2]; exact List.mem_cons_self)
      unfold Dig at hd
      have e : (45 : UInt8).toNat = 45 := rfl
      omega
    · exact fun h => absurd h.2.1 hv

theorem canon_pos (l : List UInt8) (v : Int) (hl : ∀ r, l ≠ 45 :: r) : Canon l v ↔ CanonD false l v := by
  unfold Canon CanonD Lib.itoa
  rw [if_neg (show ¬ (false = true) by simp)]
  by_cases hv : v < 0
  · rw [if_pos hv]
    constructor
    · exact fun h => absurd h.2.symm (hl _)
    · exact fun h => absurd h.2.1 (by omega)
  · rw [if_neg hv]
    constructor
    · exact fun h => ⟨h.1, by omega, h.2⟩
    · exact fun h => ⟨h.1, h.2.2⟩

/-- The size of the number that digits stand for. -/
theorem canonD_digits {neg : Bool} {l : List UInt8} {v : Int} (h : CanonD neg l v) : ∃ u : Nat, Lib.decDigits u = l ∧ u ≤ 9223372036854775808 ∧ (neg = true → 1 ≤ u ∧ v = -(u : Int)) ∧ (neg = false → v = (u : Int) ∧ u < 9223372036854775808) := by
  obtain ⟨⟨v1, v2⟩, h2⟩ := h
  cases neg with
  | true =>
    rw [if_pos rfl] at h2
    exact ⟨v.natAbs, h2.2, by omega, fun _ => ⟨by omega, by omega⟩, fun e => by cases e⟩
  | false =>
    rw [if_neg (by simp)] at h2
    exact ⟨v.toNat, h2.2, by omega, (fun e => by cases e), fun _ => ⟨by omega, by omega⟩⟩

theorem no_nil (neg : Bool) (v : Int) : ¬ CanonD neg [] v := by
  intro h
  obtain ⟨u, h1, _⟩ := canonD_digits h
  exact digits_ne u h1
theorem no_long (neg : Bool) (l : List UInt8) (hl : 19 < l.length) (v : Int) : ¬ CanonD neg l v := by
  intro h
  obtain ⟨u, h1, h2, _⟩ := canonD_digits h
  have := digits_len u 19 (by omega) (by omega)
  rw [h1] at this
  omega
theorem no_nought (neg : Bool) (r : List UInt8) (hr : r ≠ [] ∨ neg = true) (v : Int) : ¬ CanonD neg (48 :: r) v := by
  intro h
  obtain ⟨u, h1, h2, h3, h4⟩ := canonD_digits h
  have hu := digits_head u r h1
  subst hu
  rw [digits_small (by omega)] at h1
  rcases hr with hr | hr
  · exact hr (List.cons.inj h1).2.symm
  · have := (h3 hr).1
    omega
theorem no_digit (neg : Bool) (l : List UInt8) (c : UInt8) (hc : c ∈ l) (hn : ¬ Dig c) (v : Int) : ¬ CanonD neg l v := by
  intro h
  obtain ⟨u, h1, _⟩ := canonD_digits h
  exact hn (digits_dig u c (by rw [h1]; exact hc))
theorem no_great (neg : Bool) (l : List UInt8) (hg : if neg = true then 9223372036854775808 < spell 0 l else 9223372036854775808 ≤ spell 0 l) (v : Int) : ¬ CanonD neg l v := by
  intro h
  obtain ⟨u, h1, h2, h3, h4⟩ := canonD_digits h
  have e : spell 0 l = u := by rw [← h1]; exact digits_spell u
  rw [e] at hg
  cases neg with
  | true => rw [if_pos rfl] at hg; omega
  | false => rw [if_neg (by simp)] at hg; have := (h4 rfl).2; omega

/-- Digits without a nought ahead. -/
structure Good (neg : Bool) (l : List UInt8) : Prop where
  ne : l ≠ []
  dig : ∀ c ∈ l, Dig c
  head : ∀ r, l = 48 :: r → r = [] ∧ neg = false

theorem yes_neg {l : List UInt8} (g : Good true l) (hv : spell 0 l ≤ 9223372036854775808) : CanonD true l (-(spell 0 l : Int)) := by
  have e := digits_of l.length l rfl g.ne g.dig (fun r hr => (g.head r hr).1)
  have hp : spell 0 l ≠ 0 := by
    intro h0
    rw [h0, digits_small (by omega)] at e
    have e48 : (UInt8.ofNat (48 + 0)) = 48 := rfl
    rw [e48] at e
    have := (g.head [] e.symm).2
    cases this
  refine ⟨⟨by omega, by omega⟩, ?_⟩
  rw [if_pos rfl]
  refine ⟨by omega, ?_⟩
  rw [show (-(spell 0 l : Int)).natAbs = spell 0 l by omega]
  exact e
theorem yes_pos {l : List UInt8} (g : Good false l) (hv : spell 0 l < 9223372036854775808) : CanonD false l (spell 0 l : Int) := by
  have e := digits_of l.length l rfl g.ne g.dig (fun r hr => (g.head r hr).1)
  refine ⟨⟨by omega, by omega⟩, ?_⟩
  rw [if_neg (by simp)]
  refine ⟨by omega, ?_⟩
  rw [Int.toNat_natCast]
  exact e

/-- A byte of a text, as the walk reads it. -/
theorem take_bt (d : ByteArray) (k : Nat) (h : k < d.size) : ∃ c, d.data.toList.take (k + 1) = d.data.toList.take k ++ [c] ∧ c ∈ d.data.toList ∧ bt d k = (c.toNat : Int) ∧ d.data.toList[k]? = some c := by
  refine ⟨d[k], ?_, ?_, ?_, ?_⟩
  · rw [List.take_succ_eq_append_getElem (by simpa using h)]; rfl
  · exact Array.mem_toList_iff.2 (Array.getElem_mem _)
  · exact (get_bt d k h).symm
  · rw [List.getElem?_eq_getElem (by simpa using h)]; rfl
theorem head_bt (d : ByteArray) (h : 0 < d.size) : ∃ c r, d.data.toList = c :: r ∧ bt d 0 = (c.toNat : Int) ∧ r.length + 1 = d.size := by
  obtain ⟨c, h1, _, h3, h4⟩ := take_bt d 0 h
  cases hl : d.data.toList with
  | nil => rw [hl] at h4; cases h4
  | cons x r =>
    rw [hl] at h4
    have e : x = c := by simpa using h4
    subst e
    refine ⟨x, r, rfl, h3, ?_⟩
    have := Lib.size_eq d
    rw [hl] at this
    simpa using this.symm
theorem byte_eq {c : UInt8} {n : Nat} (hn : n < 256) (h : (c.toNat : Int) = (n : Int)) : c = UInt8.ofNat n := by
  apply UInt8.toNat_inj.1
  rw [UInt8.toNat_ofNat']
  omega
end Go.Proofs.YtghhgihfgoenjaaDoor
