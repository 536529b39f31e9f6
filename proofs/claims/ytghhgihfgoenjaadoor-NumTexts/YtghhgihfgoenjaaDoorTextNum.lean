/-
  Plain facts on decimal digits: what digits spell, that a numeral's digits spell its number, and which digits are a numeral; for any number and any list of bytes.
-/
import Derived.Test.YtghhgihfgoenjaaDoorPowNum
import Derived.Lib.ItoaNum
import Derived.Lib.ParseIntB
import Derived.Lib.ParseIntBTie
namespace Go.Proofs.YtghhgihfgoenjaaDoor
open Go.RowKit

/-- A digit. -/
def Dig (c : UInt8) : Prop := 48 ≤ c.toNat ∧ c.toNat ≤ 57
/-- What digits spell behind what was spelt before. -/
def spell (acc : Nat) : List UInt8 → Nat
  | [] => acc
  | c :: r => spell (acc * 10 + (c.toNat - 48)) r

theorem spell_snoc (acc : Nat) (xs : List UInt8) (c : UInt8) : spell acc (xs ++ [c]) = spell acc xs * 10 + (c.toNat - 48) := by
  induction xs generalizing acc with
  | nil => rfl
  | cons x r ih => exact ih _
theorem spell_le (acc : Nat) (xs : List UInt8) : acc ≤ spell acc xs := by
  induction xs generalizing acc with
  | nil => exact Nat.le_refl _
  | cons x r ih => have := ih (acc * 10 + (x.toNat - 48)); show acc ≤ spell (acc * 10 + (x.toNat - 48)) r; omega
theorem spell_lt (acc : Nat) (xs : List UInt8) (h : ∀ c ∈ xs, Dig c) : spell acc xs < (acc + 1) * 10 ^ xs.length := by
  induction xs generalizing acc with
  | nil => show acc < (acc + 1) * 10 ^ 0; omega
  | cons x r ih =>
    have h1 := ih (acc * 10 + (x.toNat - 48)) (fun c hc => h c (List.mem_cons_of_mem _ hc))
    have h2 := h x (List.mem_cons_self)
    unfold Dig at h2
    show spell (acc * 10 + (x.toNat - 48)) r < (acc + 1) * 10 ^ (r.length + 1)
    have h3 : (acc * 10 + (x.toNat - 48) + 1) * 10 ^ r.length ≤ (acc + 1) * 10 * 10 ^ r.length := Nat.mul_le_mul_right _ (by omega)
    rw [Nat.pow_succ, Nat.mul_comm (10 ^ r.length) 10, ← Nat.mul_assoc]
    omega

theorem ofNat_dig (i : Nat) (h : i < 10) : (UInt8.ofNat (48 + i)).toNat = 48 + i := by
  rw [UInt8.toNat_ofNat']; omega
theorem dig_back (c : UInt8) (h : Dig c) : UInt8.ofNat (48 + (c.toNat - 48)) = c := by
  unfold Dig at h
  apply UInt8.toNat_inj.1
  rw [ofNat_dig _ (by omega)]; omega

theorem digits_small {u : Nat} (h : u < 10) : Lib.decDigits u = [UInt8.ofNat (48 + u)] := by rw [Lib.decDigits, dif_pos h]
theorem digits_big {u : Nat} (h : ¬ u < 10) : Lib.decDigits u = Lib.decDigits (u / 10) ++ [UInt8.ofNat (48 + u % 10)] := by rw [Lib.decDigits, dif_neg h]

/-- What holds of a numeral's digits: by the number's own size. -/
theorem digits_all (n : Nat) : ∀ u, u ≤ n → (∀ c ∈ Lib.decDigits u, Dig c) ∧ spell 0 (Lib.decDigits u) = u ∧ Lib.decDigits u ≠ [] ∧ (∀ r, Lib.decDigits u = 48 :: r → u = 0) := by
  induction n with
  | zero =>
    intro u hu
    obtain rfl : u = 0 := by omega
    rw [digits_small (by omega)]
    refine ⟨fun c hc => ?_, rfl, by simp, fun _ _ => rfl⟩
    rw [List.mem_singleton] at hc
    subst hc
    unfold Dig
    rw [ofNat_dig _ (by omega)]; omega
  | succ n ih =>
    intro u hu
    by_cases h : u < 10
    · rw [digits_small h]
      refine ⟨fun c hc => ?_, ?_, by simp, fun r hr => ?_⟩
      · rw [List.mem_singleton] at hc
        subst hc
        unfold Dig
        rw [ofNat_dig _ h]; omega
      · show 0 * 10 + ((UInt8.ofNat (48 + u)).toNat - 48) = u
        rw [ofNat_dig _ h]; omega
      · have e := (List.cons.inj hr).1
        have e2 := congrArg UInt8.toNat e
        rw [ofNat_dig _ h] at e2
        have e3 : (48 : UInt8).toNat = 48 := rfl
        omega
    · obtain ⟨i1, i2, i3, i4⟩ := ih (u / 10) (by omega)
      rw [digits_big h]
      refine ⟨fun c hc => ?_, ?_, by simp, fun r hr => ?_⟩
      · rcases List.mem_append.1 hc with hc | hc
        · exact i1 c hc
        · rw [List.mem_singleton] at hc
          subst hc
          unfold Dig
          rw [ofNat_dig _ (by omega)]; omega
      · rw [spell_snoc, i2, ofNat_dig _ (by omega)]; omega
      · cases hd : Lib.decDigits (u / 10) with
        | nil => exact absurd hd i3
        | cons x t =>
          rw [hd] at hr
          have e := (List.cons.inj hr).1
          subst e
          have := i4 t hd
          omega

theorem digits_dig (u : Nat) : ∀ c ∈ Lib.decDigits u, Dig c := (digits_all u u (Nat.le_refl _)).1
theorem digits_spell (u : Nat) : spell 0 (Lib.decDigits u) = u := (digits_all u u (Nat.le_refl _)).2.1
theorem digits_ne (u : Nat) : Lib.decDigits u ≠ [] := (digits_all u u (Nat.le_refl _)).2.2.1
theorem digits_head (u : Nat) (r : List UInt8) (h : Lib.decDigits u = 48 :: r) : u = 0 := (digits_all u u (Nat.le_refl _)).2.2.2 r h

/-- Digits without a nought ahead are the numeral of what they spell. -/
theorem digits_of (k : Nat) : ∀ xs : List UInt8, xs.length = k → xs ≠ [] → (∀ c ∈ xs, Dig c) → (∀ r, xs = 48 :: r → r = []) → Lib.decDigits (spell 0 xs) = xs := by
  induction k with
  | zero => intro xs h1 h2; exact absurd (List.length_eq_zero_iff.1 h1) h2
  | succ k ih =>
    intro xs h1 h2 h3 h4
    have hx : xs = xs.dropLast ++ [xs.getLast h2] := (List.dropLast_concat_getLast h2).symm
    generalize hy : xs.dropLast = ys at hx
    generalize xs.getLast h2 = c at hx
    subst hx
    have hc : Dig c := h3 c (by simp)
    have hc' := hc
    unfold Dig at hc'
    rw [spell_snoc]
    by_cases hn : ys = []
    · subst hn
      show Lib.decDigits (0 * 10 + (c.toNat - 48)) = [c]
      rw [show 0 * 10 + (c.toNat - 48) = c.toNat - 48 by omega, digits_small (by omega), dig_back c hc]
    · have i := ih ys (by simpa using h1) hn (fun d hd => h3 d (by simp [hd])) (fun r hr => by
        have := h4 (r ++ [c]) (by rw [hr]; rfl)
        simp at this)
      have hpos : 1 ≤ spell 0 ys := by
        by_cases h0 : spell 0 ys = 0
        · exfalso
          rw [h0, digits_small (by omega)] at i
          have e : (UInt8.ofNat (48 + 0)) = 48 := rfl
          rw [e] at i
          have := h4 ([] ++ [c]) (by rw [← i]; rfl)
          simp at this
        · omega
      rw [digits_big (by omega), show (spell 0 ys * 10 + (c.toNat - 48)) / 10 = spell 0 ys by omega, i, show (spell 0 ys * 10 + (c.toNat - 48)) % 10 = c.toNat - 48 by omega, dig_back c hc]

theorem digits_len (u k : Nat) (hk : 1 ≤ k) (h : u < 10 ^ k) : (Lib.decDigits u).length ≤ k := by
  induction k generalizing u with
  | zero => omega
  | succ k ih =>
    by_cases hu : u < 10
    · rw [digits_small hu]; simp
    · rw [digits_big hu, List.length_append]
      have hk1 : 1 ≤ k := by
        by_cases e : k = 0
        · subst e; simp at h; omega
        · omega
      have := ih (u / 10) hk1 (by rw [Nat.pow_succ] at h; omega)
      simpa using this

/-- ParseUint over digits that fit. -/
theorem uint_ok (M : Nat) (hM : M ≤ 18446744073709551615) : ∀ (xs : List UInt8) (acc : Nat), (∀ c ∈ xs, Dig c) → spell acc xs ≤ M → Lib.parseUintM M acc xs = .ok (spell acc xs) := by
  intro xs
  induction xs with
  | nil => intro acc _ _; rfl
  | cons x r ih =>
    intro acc h1 h2
    have hx : 48 ≤ x.toNat ∧ x.toNat ≤ 57 := h1 x (List.mem_cons_self)
    have h3 := spell_le (acc * 10 + (x.toNat - 48)) r
    have h4 : spell (acc * 10 + (x.toNat - 48)) r ≤ M := h2
    unfold Lib.parseUintM
    rw [if_pos hx, if_neg (by omega), if_neg (by omega)]
    exact ih _ (fun c hc => h1 c (List.mem_cons_of_mem _ hc)) h2

/-- A text that is a number's numeral. -/
def Canon (l : List UInt8) (v : Int) : Prop := In64 v ∧ Lib.itoa v = l

theorem parse_canon {l : List UInt8} {v : Int} (h : Canon l v) : Lib.parseIntB 64 l = .ok v := by
  obtain ⟨⟨v1, v2⟩, rfl⟩ := h
  unfold Lib.itoa
  by_cases hv : v < 0
  · rw [if_pos hv]
    have hu : Lib.parseUintB 64 (Lib.decDigits v.natAbs) = .ok v.natAbs := by
      unfold Lib.parseUintB
      rw [if_neg (digits_ne _)]
      have := uint_ok (2 ^ 64 - 1) (by decide) (Lib.decDigits v.natAbs) 0 (digits_dig _) (by rw [digits_spell]; omega)
      rw [digits_spell] at this
      exact this
    unfold Lib.parseIntB
    dsimp only
    have e45 : (45 : UInt8).toNat = 45 := rfl
    rw [if_pos (show (45 : UInt8).toNat = 43 ∨ (45 : UInt8).toNat = 45 from Or.inr e45), hu]
    dsimp only
    rw [if_neg (fun e => e.1 e45), if_neg (fun e => by have := e.2; omega), if_pos e45]
    congr 1
    omega
  · rw [if_neg hv]
    have hu : Lib.parseUintB 64 (Lib.decDigits v.toNat) = .ok v.toNat := by
      unfold Lib.parseUintB
      rw [if_neg (digits_ne _)]
      have := uint_ok (2 ^ 64 - 1) (by decide) (Lib.decDigits v.toNat) 0 (digits_dig _) (by rw [digits_spell]; omega)
      rw [digits_spell] at this
      exact this
    cases hd : Lib.decDigits v.toNat with
    | nil => exact absurd hd (digits_ne _)
    | cons c r =>
      have hc : 48 ≤ c.toNat ∧ c.toNat ≤ 57 := digits_dig v.toNat c (by rw [hd]; exact List.mem_cons_self)
      rw [hd] at hu
      unfold Lib.parseIntB
      dsimp only
      rw [if_neg (by omega), hu]
      dsimp only
      rw [if_neg (fun e => by have := e.2; omega), if_neg (fun e => by have := e.1; omega), if_neg (by omega)]
      congr 1
      omega
end Go.Proofs.YtghhgihfgoenjaaDoor
