/-
  Small plain facts on numbers of 64 bits and on worlds that grow, which the walks over package num use; no condition.
-/
import Derived.Handy
import Derived.Deep.QuietTactic
import Derived.Test.YteipijgkiobmaabGreatDoorProg
import Derived.WalkSpells
import Derived.WalkLawsBesides
import Derived.BigQuiet
import Derived.PlainAid
import Derived.Deep.RegionWith
import Derived.Laws.BitsAllLaws
import Derived.Shelf.Bits.Mul64
import Derived.Deep.RegionHeld3
namespace Go.Proofs.YteipijgkiobmaabGreatDoor
open Go.RowKit

theorem belowN {B : Nat} {w0 w : World} (h : Below B w0 w) (n : Nat) : Below B w0 (w.drewN n) := h.trans ⟨rfl, rfl, rfl, Nat.le_refl _, fun _ _ => rfl⟩
theorem belowT {a b c : World} (h : Below a.heap.size a b) (k : Below b.heap.size b c) : Below a.heap.size a c := h.trans (k.mono h.size)
theorem df {p : Prop} [Decidable p] (h : ¬ p) : decide p = false := decide_eq_false h

/-- A number of 64 bits with a sign. -/
def fits (n : Int) : Bool := decide (-9223372036854775808 ≤ n ∧ n ≤ 9223372036854775807)
/-- The number, where it fits; else nought. -/
def kept (n : Int) : Int := if fits n = true then n else 0
theorem fits_mk {n : Int} (h : -9223372036854775808 ≤ n ∧ n ≤ 9223372036854775807) : fits n = true := decide_eq_true h
theorem fits_of {n : Int} (h : fits n = true) : -9223372036854775808 ≤ n ∧ n ≤ 9223372036854775807 := of_decide_eq_true h
theorem fits_no {n : Int} (h : ¬ (-9223372036854775808 ≤ n ∧ n ≤ 9223372036854775807)) : fits n = false := decide_eq_false h
theorem kept_mk {n : Int} (h : fits n = true) : kept n = n := if_pos h
theorem kept_no {n : Int} (h : fits n = false) : kept n = 0 := by unfold kept; rw [h]; rfl
theorem kept_bd (n : Int) : -9223372036854775808 ≤ kept n ∧ kept n ≤ 9223372036854775807 := by
  by_cases h : fits n = true
  · rw [kept_mk h]; exact fits_of h
  · rw [kept_no (by simpa using h)]; omega
theorem wrap_fits {n : Int} (h : -9223372036854775808 ≤ n ∧ n ≤ 9223372036854775807) : wrap64 n = n := IntWalk.wrap64_in n h
theorem wrap_bd (n : Int) : -9223372036854775808 ≤ wrap64 n ∧ wrap64 n ≤ 9223372036854775807 := by unfold wrap64; omega
theorem wrap_mod (n : Int) : ∃ k : Int, wrap64 n = n + 18446744073709551616 * k := ⟨-((n + 9223372036854775808) / 18446744073709551616), by unfold wrap64; omega⟩

/-- Dividing back tells whether a product wrapped. -/
theorem back_fits {a b : Int} (ha : a ≠ 0) : (a * b).tdiv a = b := Int.mul_tdiv_cancel_left b ha
theorem back_over {a b n : Int} (ha : a ≠ 0) (a1 : -9223372036854775808 ≤ a) (a2 : a ≤ 9223372036854775807) (hn : n = wrap64 (a * b)) (ho : ¬ (-9223372036854775808 ≤ a * b ∧ a * b ≤ 9223372036854775807)) : n.tdiv a ≠ b := by
  intro h
  obtain ⟨k, hk⟩ := wrap_mod (a * b)
  have hb := wrap_bd (a * b)
  rw [← hn] at hk hb
  have e := Int.mul_tdiv_add_tmod n a
  rw [h] at e
  have hr : (n.tmod a).natAbs < a.natAbs := by
    rw [Int.natAbs_tmod]; exact Nat.mod_lt _ (by omega)
  have : n.tmod a = 18446744073709551616 * k := by omega
  have hk0 : k = 0 := by omega
  subst hk0
  omega
theorem tdiv_bd {n a : Int} (h1 : -9223372036854775808 ≤ n) (h2 : n ≤ 9223372036854775807) (hm : a ≠ -1) : -9223372036854775808 ≤ n.tdiv a ∧ n.tdiv a ≤ 9223372036854775807 := by
  have h : (n.tdiv a).natAbs = n.natAbs / a.natAbs := Int.natAbs_tdiv n a
  by_cases h0 : a = 0
  · subst h0; simp
  · by_cases hp : a = 1
    · subst hp; simp; omega
    · have hd : n.natAbs / a.natAbs ≤ n.natAbs / 2 := Nat.div_le_div_left (by omega) (by omega)
      omega
end Go.Proofs.YteipijgkiobmaabGreatDoor

/-
  Plain facts on the lattice of triangles: a remainder lies in the hexagon about nought just if nothing of the lattice, times the divisor, is nearer to it; which centre is the nearest one, the least of several, is one alone; for any numbers and any divisor above nought.
-/
namespace Go.Proofs.YteipijgkiobmaabGreatDoor
open Go.RowKit

/-- The Norm of a number of the lattice. -/
def normE (s t : Int) : Int := s * s + s * t + t * t
/-- The hexagon about nought: as near to nought as to any Unit times d. -/
def Hex (d s t : Int) : Prop := (-d ≤ 2 * s + t ∧ 2 * s + t ≤ d) ∧ (-d ≤ s + 2 * t ∧ s + 2 * t ≤ d) ∧ (-d ≤ s - t ∧ s - t ≤ d)

theorem mul_up {m p d : Int} (hm : 0 ≤ m) (h : p ≤ d) : m * p ≤ m * d := Int.mul_le_mul_of_nonneg_left h hm
theorem sq_ge (m : Int) : m ≤ m * m ∧ -m ≤ m * m := by
  by_cases h : m ≤ 0
  · have h1 : 0 ≤ m * m := by have := Int.mul_nonneg (show 0 ≤ -m by omega) (show 0 ≤ -m by omega); rw [Int.neg_mul_neg] at this; exact this
    by_cases h0 : m = 0
    · subst h0; omega
    · have h2 := mul_up (m := -m) (p := 1) (d := -m) (by omega) (by omega)
      rw [Int.neg_mul_neg, Int.mul_one] at h2
      omega
  · have h2 := mul_up (m := m) (p := 1) (d := m) (by omega) (by omega)
    rw [Int.mul_one] at h2
    omega

/-- One sign. -/
theorem step_same {m n p q d : Int} (hd : 0 ≤ d) (hm : 0 ≤ m) (hn : 0 ≤ n) (hp : p ≤ d) (hq : q ≤ d) : m * p + n * q ≤ normE m n * d := by
  have h1 := mul_up hm hp
  have h2 := mul_up hn hq
  have h3 : (m + n) * d ≤ normE m n * d := by
    refine Int.mul_le_mul_of_nonneg_right ?_ hd
    have := (sq_ge m).1
    have := (sq_ge n).1
    have := Int.mul_nonneg hm hn
    unfold normE
    omega
  rw [Int.add_mul] at h3
  omega
/-- Unlike signs. -/
theorem step_unlike {m n p q d : Int} (hd : 0 ≤ d) (hm : 0 ≤ m) (hn : 0 ≤ n) (hp : p ≤ d) (hq : -d ≤ q) (hpq : p - q ≤ d) : m * p - n * q ≤ normE m (-n) * d := by
  have hN : normE m (-n) = m * m - m * n + n * n := by unfold normE; rw [Int.mul_neg, Int.neg_mul_neg]; omega
  rw [hN]
  by_cases h : n ≤ m
  · have h1 := mul_up (m := m - n) (by omega) hp
    have h2 := mul_up hn hpq
    have e : m * p - n * q = (m - n) * p + n * (p - q) := by rw [Int.sub_mul, Int.mul_sub]; omega
    have e2 : (m - n) * d + n * d = m * d := by rw [← Int.add_mul]; congr 1; omega
    have h3 : m ≤ m * m - m * n + n * n := by
      by_cases h0 : m = 0
      · subst h0
        obtain rfl : n = 0 := by omega
        omega
      · have h4 := mul_up (m := m - n) (p := 1) (d := m) (by omega) (by omega)
        rw [Int.mul_one, Int.sub_mul, Int.mul_comm n m] at h4
        have := (sq_ge n).1
        omega
    have h5 := Int.mul_le_mul_of_nonneg_right h3 hd
    omega
  · have h1 := mul_up hm hpq
    have h2 := mul_up (m := n - m) (p := -q) (d := d) (by omega) (by omega)
    have e : m * p - n * q = m * (p - q) + (n - m) * (-q) := by rw [Int.mul_sub, Int.sub_mul, Int.mul_neg, Int.mul_neg]; omega
    have e2 : m * d + (n - m) * d = n * d := by rw [← Int.add_mul]; congr 1; omega
    have h3 : n ≤ m * m - m * n + n * n := by
      have h4 := mul_up (m := n - m) (p := 1) (d := n) (by omega) (by omega)
      rw [Int.mul_one, Int.sub_mul] at h4
      have := (sq_ge m).1
      omega
    have h5 := Int.mul_le_mul_of_nonneg_right h3 hd
    omega
theorem step_all {m n p q d : Int} (hd : 0 ≤ d) (hp : -d ≤ p ∧ p ≤ d) (hq : -d ≤ q ∧ q ≤ d) (hpq : -d ≤ p - q ∧ p - q ≤ d) : m * p + n * q ≤ normE m n * d := by
  by_cases hm : 0 ≤ m
  · by_cases hn : 0 ≤ n
    · exact step_same hd hm hn hp.2 hq.2
    · have := step_unlike (m := m) (n := -n) hd hm (by omega) hp.2 hq.1 hpq.2
      rw [Int.neg_mul, Int.neg_neg] at this
      omega
  · by_cases hn : 0 ≤ n
    · have := step_unlike (m := -m) (n := n) (p := -p) (q := -q) hd (by omega) hn (by omega) (by omega) (by omega)
      rw [Int.neg_mul_neg, Int.mul_neg] at this
      have e : normE (-m) (-n) = normE m n := by unfold normE; rw [Int.neg_mul_neg, Int.neg_mul_neg, Int.neg_mul_neg]
      rw [e] at this
      omega
    · have := step_same (m := -m) (n := -n) (p := -p) (q := -q) hd (by omega) (by omega) (by omega) (by omega)
      rw [Int.neg_mul_neg, Int.neg_mul_neg] at this
      have e : normE (-m) (-n) = normE m n := by unfold normE; rw [Int.neg_mul_neg, Int.neg_mul_neg, Int.neg_mul_neg]
      rw [e] at this
      exact this

theorem norm_moved (s t m n d : Int) : normE (s - m * d) (t - n * d) = normE s t - d * (m * (2 * s + t) + n * (s + 2 * t)) + d * (normE m n * d) := by
  unfold normE
  simp only [Int.sub_mul, Int.mul_sub, Int.add_mul, Int.mul_add]
  have e1 : m * d * s = s * (m * d) := Int.mul_comm _ _
  have e2 : m * d * t = t * (m * d) := Int.mul_comm _ _
  have e3 : n * d * t = t * (n * d) := Int.mul_comm _ _
  have e4 : d * (m * (2 * s)) = 2 * (s * (m * d)) := by rw [show m * (2 * s) = 2 * (m * s) by rw [Int.mul_left_comm], Int.mul_left_comm d 2, show d * (m * s) = s * (m * d) by rw [Int.mul_comm m s, Int.mul_left_comm d s m, Int.mul_comm d m]]
  have e5 : d * (m * t) = t * (m * d) := by rw [Int.mul_comm m t, Int.mul_left_comm d t m, Int.mul_comm d m]
  have e6 : d * (n * s) = s * (n * d) := by rw [Int.mul_comm n s, Int.mul_left_comm d s n, Int.mul_comm d n]
  have e7 : d * (n * (2 * t)) = 2 * (t * (n * d)) := by rw [show n * (2 * t) = 2 * (n * t) by rw [Int.mul_left_comm], Int.mul_left_comm d 2, show d * (n * t) = t * (n * d) by rw [Int.mul_comm n t, Int.mul_left_comm d t n, Int.mul_comm d n]]
  have f1 : d * (m * m * d) = m * d * (m * d) := by rw [Int.mul_assoc m m d, Int.mul_left_comm d m, Int.mul_assoc m d]
  have f2 : d * (m * n * d) = m * d * (n * d) := by rw [Int.mul_assoc m n d, Int.mul_left_comm d m, Int.mul_assoc m d]
  have f3 : d * (n * n * d) = n * d * (n * d) := by rw [Int.mul_assoc n n d, Int.mul_left_comm d n, Int.mul_assoc n d]
  omega

theorem norm_pos (a b : Int) : 0 ≤ normE a b := by
  have h1 : 4 * normE a b = (2 * a + b) * (2 * a + b) + 3 * (b * b) := by
    unfold normE
    simp only [Int.mul_add, Int.add_mul]
    have e1 : 2 * a * (2 * a) = 4 * (a * a) := by rw [Int.mul_assoc, Int.mul_left_comm a 2 a]; omega
    have e2 : 2 * a * b = 2 * (a * b) := Int.mul_assoc _ _ _
    have e3 : b * (2 * a) = 2 * (a * b) := by rw [Int.mul_left_comm, Int.mul_comm b a]
    omega
  have h2 := sq_ge (2 * a + b)
  have h3 := sq_ge b
  omega
theorem norm_prod (a b c d : Int) : normE (a * c - b * d) (a * d + b * c + b * d) = normE a b * normE c d := by
  unfold normE; grind
/-- In the hexagon nothing is nearer. -/
theorem hex_near {d s t : Int} (hd : 0 ≤ d) (h : Hex d s t) (m n : Int) : normE s t ≤ normE (s - m * d) (t - n * d) := by
  obtain ⟨h1, h2, h3⟩ := h
  rw [norm_moved]
  have := step_all (m := m) (n := n) (p := 2 * s + t) (q := s + 2 * t) hd h1 h2 (by omega)
  have := mul_up hd this
  omega

/-- Where nothing is nearer, there is the hexagon. -/
theorem near_hex {d s t : Int} (hd : 0 < d) (h : ∀ m n : Int, normE s t ≤ normE (s - m * d) (t - n * d)) : Hex d s t := by
  have key : ∀ m n : Int, normE m n = 1 → m * (2 * s + t) + n * (s + 2 * t) ≤ d := by
    intro m n e
    have := h m n
    rw [norm_moved, e, Int.one_mul] at this
    exact Int.le_of_mul_le_mul_left (a := d) (by omega) hd
  have k1 := key 1 0 (by decide)
  have k2 := key (-1) 0 (by decide)
  have k3 := key 0 1 (by decide)
  have k4 := key 0 (-1) (by decide)
  have k5 := key 1 (-1) (by decide)
  have k6 := key (-1) 1 (by decide)
  unfold Hex
  omega

/-- The centre (a, b) holds (u, v). -/
def HexAt (d u v a b : Int) : Prop := Hex d (u - a * d) (v - b * d)
/-- The least centre that holds (u, v). -/
def Nearest (d u v a b : Int) : Prop := HexAt d u v a b ∧ ∀ a' b', HexAt d u v a' b' → a < a' ∨ a = a' ∧ b ≤ b'
theorem nearest_one {d u v a b a' b' : Int} (h : Nearest d u v a b) (h' : Nearest d u v a' b') : a = a' ∧ b = b' := by
  have h1 := h.2 a' b' h'.1
  have h2 := h'.2 a b h.1
  omega

/-- A remainder from nought to below d is held by one of four centres, and by no other. -/
theorem hex_window {d s t i k : Int} (s0 : 0 ≤ s) (s1 : s < d) (t0 : 0 ≤ t) (t1 : t < d) (h : Hex d (s - i * d) (t - k * d)) : 0 ≤ i ∧ i ≤ 1 ∧ 0 ≤ k ∧ k ≤ 1 := by
  unfold Hex at h
  have hx : -d ≤ s - i * d ∧ s - i * d ≤ d := by omega
  have hy : -d ≤ t - k * d ∧ t - k * d ≤ d := by omega
  have bd : ∀ j : Int, -d ≤ j * d → j * d < 2 * d → -1 ≤ j ∧ j ≤ 1 := by
    intro j h1 h2
    constructor
    · by_cases hj : -1 ≤ j
      · exact hj
      · exfalso
        have := Int.mul_le_mul_of_nonneg_right (show j ≤ -2 by omega) (show 0 ≤ d by omega)
        omega
    · by_cases hj : j ≤ 1
      · exact hj
      · exfalso
        have := Int.mul_le_mul_of_nonneg_right (show 2 ≤ j by omega) (show 0 ≤ d by omega)
        omega
  have bi := bd i (by omega) (by omega)
  have bk := bd k (by omega) (by omega)
  have ci : i = -1 ∨ i = 0 ∨ i = 1 := by omega
  have ck : k = -1 ∨ k = 0 ∨ k = 1 := by omega
  rcases ci with rfl | rfl | rfl <;> rcases ck with rfl | rfl | rfl <;> omega
theorem hex_some {d s t : Int} (s0 : 0 ≤ s) (s1 : s < d) (t0 : 0 ≤ t) (t1 : t < d) : Hex d s t ∨ Hex d s (t - d) ∨ Hex d (s - d) t ∨ Hex d (s - d) (t - d) := by
  unfold Hex
  omega

/-- The ending that tells the nearest centre. -/
def TellsR (d u v : Int) (e : Ending) : Prop := ∃ a b : Int, e = .returned (.tuple #[.agg #[.int .i64 a, .int .i64 b], .bool true]) ∧ Nearest d u v a b
/-- The remainder, moved by i and k. -/
def HexW (d s t i k : Int) : Prop := Hex d (s - i * d) (t - k * d)
theorem at_moved {d u v a b s t : Int} (h1 : u = d * a + s) (h2 : v = d * b + t) (x y : Int) : HexAt d u v x y ↔ HexW d s t (x - a) (y - b) := by
  unfold HexAt HexW
  rw [Int.sub_mul, Int.sub_mul, h1, h2, Int.mul_comm d a, Int.mul_comm d b, show a * d + s - x * d = s - (x * d - a * d) by omega, show b * d + t - y * d = t - (y * d - b * d) by omega]
theorem nearest_of {d u v a b s t i k : Int} (h1 : u = d * a + s) (h2 : v = d * b + t) (h : HexW d s t i k) (hl : ∀ i' k', HexW d s t i' k' → i < i' ∨ i = i' ∧ k ≤ k') : Nearest d u v (a + i) (b + k) := by
  constructor
  · rw [at_moved h1 h2, show a + i - a = i by omega, show b + k - b = k by omega]; exact h
  · intro x y hxy
    rw [at_moved h1 h2] at hxy
    have := hl _ _ hxy
    omega
theorem hexW_some {d s t : Int} (s0 : 0 ≤ s) (s1 : s < d) (t0 : 0 ≤ t) (t1 : t < d) : ∃ i k, HexW d s t i k := by
  rcases hex_some s0 s1 t0 t1 with h | h | h | h
  · exact ⟨0, 0, by unfold HexW; rw [Int.zero_mul, Int.sub_zero, Int.sub_zero]; exact h⟩
  · exact ⟨0, 1, by unfold HexW; rw [Int.zero_mul, Int.sub_zero, Int.one_mul]; exact h⟩
  · exact ⟨1, 0, by unfold HexW; rw [Int.zero_mul, Int.sub_zero, Int.one_mul]; exact h⟩
  · exact ⟨1, 1, by unfold HexW; rw [Int.one_mul]; exact h⟩
theorem mul_box {i d : Int} (i1 : -1 ≤ i) (i2 : i ≤ 2) (d1 : 1 ≤ d) (d2 : d ≤ 1125899906842624) : -1125899906842624 ≤ i * d ∧ i * d ≤ 2251799813685248 := by
  have c : i = -1 ∨ i = 0 ∨ i = 1 ∨ i = 2 := by omega
  rcases c with rfl | rfl | rfl | rfl <;> omega
theorem div_box {u d : Int} (u1 : -1152921504606846976 ≤ u) (u2 : u ≤ 1152921504606846976) (d1 : 1 ≤ d) : -1152921504606846976 ≤ u / d ∧ u / d ≤ 1152921504606846976 := by
  have h := Int.mul_ediv_add_emod u d
  have h1 := Int.emod_nonneg u (b := d) (by omega)
  have h2 := Int.emod_lt_of_pos u (b := d) (by omega)
  constructor
  · by_cases hq : -1152921504606846976 ≤ u / d
    · exact hq
    · exfalso
      have h3 := Int.mul_le_mul_of_nonneg_left (show u / d + 1 ≤ -1152921504606846976 by omega) (show 0 ≤ d by omega)
      rw [Int.mul_add, Int.mul_one] at h3
      omega
  · by_cases hq : u / d ≤ 1152921504606846976
    · exact hq
    · exfalso
      have h3 := Int.mul_le_mul_of_nonneg_left (show 1152921504606846977 ≤ u / d by omega) (show 0 ≤ d by omega)
      omega

/-- The parts of the k-th Unit. -/
def unitA (j : Int) : Int := if j = 0 then 1 else if j = 1 then 0 else if j = 2 then -1 else if j = 3 then -1 else if j = 4 then 0 else 1
def unitB (j : Int) : Int := if j = 0 then 0 else if j = 1 then 1 else if j = 2 then 1 else if j = 3 then 0 else if j = 4 then -1 else -1

/-- By how much the centre (0, 1), (1, 0) or (1, 1) is farther than nought, in parts of d. -/
def farN (s t d : Int) : Nat → Int
  | 0 => 0
  | 1 => d - s - 2 * t
  | 2 => d - 2 * s - t
  | _ => 3 * (d - s - t)
/-- The first least of the first k of them, and how far it is. -/
def pick (s t d : Int) : Nat → Nat × Int
  | 0 => (0, 0)
  | k + 1 => if farN s t d k < (pick s t d k).2 then (k, farN s t d k) else pick s t d k
theorem pick_lt (s t d : Int) : ∀ k, (pick s t d k).1 ≤ k
  | 0 => Nat.le_refl _
  | k + 1 => by
    have := pick_lt s t d k
    unfold pick
    split <;> simp <;> omega
theorem pick_near {s t d : Int} (s0 : 0 ≤ s) (s1 : s < d) (t0 : 0 ≤ t) (t1 : t < d) :
    HexW d s t ((((pick s t d 4).1 : Nat) : Int) / 2) ((((pick s t d 4).1 : Nat) : Int) % 2) ∧ ∀ i' k', HexW d s t i' k' → (((pick s t d 4).1 : Nat) : Int) / 2 < i' ∨ (((pick s t d 4).1 : Nat) : Int) / 2 = i' ∧ (((pick s t d 4).1 : Nat) : Int) % 2 ≤ k' := by
  have win : ∀ i' k', HexW d s t i' k' → 0 ≤ i' ∧ i' ≤ 1 ∧ 0 ≤ k' ∧ k' ≤ 1 := fun i' k' h => hex_window s0 s1 t0 t1 h
  have h4 : (((pick s t d 4).1 : Nat) : Int) = 0 ∧ 0 ≤ d - s - 2 * t ∧ 0 ≤ d - 2 * s - t ∧ 0 ≤ 3 * (d - s - t)
      ∨ (((pick s t d 4).1 : Nat) : Int) = 1 ∧ d - s - 2 * t < 0 ∧ d - s - 2 * t ≤ d - 2 * s - t ∧ d - s - 2 * t ≤ 3 * (d - s - t)
      ∨ (((pick s t d 4).1 : Nat) : Int) = 2 ∧ d - 2 * s - t < 0 ∧ d - 2 * s - t < d - s - 2 * t ∧ d - 2 * s - t ≤ 3 * (d - s - t)
      ∨ (((pick s t d 4).1 : Nat) : Int) = 3 ∧ 3 * (d - s - t) < 0 ∧ 3 * (d - s - t) < d - s - 2 * t ∧ 3 * (d - s - t) < d - 2 * s - t := by
    simp only [pick, farN]
    split <;> split <;> split <;> split <;> simp_all <;> omega
  generalize (((pick s t d 4).1 : Nat) : Int) = p at h4 ⊢
  have hex : ∀ i k, HexW d s t i k ↔ Hex d (s - i * d) (t - k * d) := fun _ _ => Iff.rfl
  rcases h4 with ⟨rfl, h1, h2, h3⟩ | ⟨rfl, h1, h2, h3⟩ | ⟨rfl, h1, h2, h3⟩ | ⟨rfl, h1, h2, h3⟩
  all_goals
    refine ⟨?_, fun i' k' h => ?_⟩
    · unfold HexW Hex; simp; omega
    · have hw := win i' k' h
      have ci : i' = 0 ∨ i' = 1 := by omega
      have ck : k' = 0 ∨ k' = 1 := by omega
      unfold HexW Hex at h
      rcases ci with rfl | rfl <;> rcases ck with rfl | rfl <;> simp at h ⊢ <;> omega
end Go.Proofs.YteipijgkiobmaabGreatDoor

/-
  Plain facts on whole numbers in their halves of 64 bits, on cells that stay, and what the library's Add64 and Sub64 tell; no condition but the ones written.
-/
namespace Go.Proofs.YteipijgkiobmaabGreatDoor
open Go.RowKit

/-- The low and the high half of a whole number. -/
def low64 (z : Int) : Int := z % 18446744073709551616
def high64 (z : Int) : Int := z / 18446744073709551616 % 18446744073709551616
theorem low64_bd (z : Int) : 0 ≤ low64 z ∧ low64 z ≤ 18446744073709551615 := by unfold low64; omega
theorem high64_bd (z : Int) : 0 ≤ high64 z ∧ high64 z ≤ 18446744073709551615 := by unfold high64; omega

theorem agg_eq {a b c d : Int} (h1 : a = c) (h2 : b = d) : Ending.returned (.agg #[.int .u64 a, .int .u64 b]) = Ending.returned (.agg #[.int .u64 c, .int .u64 d]) := by rw [h1, h2]

/-- Two stores into two cells that are there read back. -/
theorem two_stores {w : World} {b : Nat} {x y u v : Value} (h0 : w.cell? ⟨b, 0, none⟩ = some x) (h1 : w.cell? ⟨b, 1, none⟩ = some y) :
    ((w.setCell ⟨b, 0, none⟩ u).setCell ⟨b, 1, none⟩ v).cell? ⟨b, 0, none⟩ = some u ∧ ((w.setCell ⟨b, 0, none⟩ u).setCell ⟨b, 1, none⟩ v).cell? ⟨b, 1, none⟩ = some v := by
  have e0 : (w.setCell ⟨b, 0, none⟩ u).cell? ⟨b, 0, none⟩ = some u := World.cell?_setCell_same _ _ _ h0
  have e1 : (w.setCell ⟨b, 0, none⟩ u).cell? ⟨b, 1, none⟩ = some y := (World.cell?_setCell_other _ _ _ _ (by simp)).trans h1
  exact ⟨(World.cell?_setCell_other _ _ _ _ (by simp)).trans e0, World.cell?_setCell_same _ _ _ e1⟩

theorem bcell {W w1 : World} (hb : Below W.heap.size W w1) : (∀ b o, b < W.heap.size → w1.cell? ⟨b, o, none⟩ = W.cell? ⟨b, o, none⟩) ∧ (∀ b o, b < W.heap.size → w1.frozen? ⟨b, o, none⟩ = W.frozen? ⟨b, o, none⟩) :=
  ⟨fun b o h => hb.cell (p := ⟨b, o, none⟩) h, fun b o h => hb.frozen (p := ⟨b, o, none⟩) h⟩

theorem keepCell {a b : World} {p : Addr} {v : Value} (hb : Below a.heap.size a b) (h : a.cell? p = some v) : b.cell? p = some v := (hb.cell (World.block_lt_of_cell? _ _ h)).trans h
theorem keepFrozen {a b : World} {p : Addr} {v : Value} (hb : Below a.heap.size a b) (h : a.cell? p = some v) (hf : a.frozen? p = false) : b.frozen? p = false := (hb.frozen (World.block_lt_of_cell? _ _ h)).trans hf

/-- The number in a cell. -/
def slotInt (w : World) (p : Addr) : Int := match w.cell? p with | some (.int .i64 n) => n | _ => 0
theorem slot_of {w : World} {p : Addr} {n : Int} (h : w.cell? p = some (.int .i64 n)) : w.cell? p = some (.int .i64 (slotInt w p)) := by
  have e : slotInt w p = n := by unfold slotInt; rw [h]
  rw [e]; exact h
theorem callAdd (x y c : Int) (hx : 0 ≤ x) (hy : 0 ≤ y) (hc0 : 0 ≤ c) (hc : c ≤ 1) (w : World) :
    (callFunc 73 #[.int .u64 x, .int .u64 y, .int .u64 c]).run Tryz.prog w = .ok (.value (.tuple #[.int .u64 ((x + y + c) % 18446744073709551616), .int .u64 ((x + y + c) / 18446744073709551616)])) w := by
  rw [run_callFunc_extern Tryz.func73 (by kernel_rfl) (by kernel_rfl) (by kernel_rfl) (e := add64Entry) (by kernel_rfl), run_add64 x y c hx hy hc0 hc]
  rfl

/-- What the model's table has for Sub64. -/
def sub64Entry : Array Value → Sem Value := (Extern.MathBitsCarry.rows[1]'(by decide)).2

theorem run_sub64 {P : Program} (x y c : Int) (hx : 0 ≤ x) (hy : 0 ≤ y) (hy1 : y < 18446744073709551616) (hc0 : 0 ≤ c) (hc : c ≤ 1) (w : World) :
    (sub64Entry #[.int .u64 x, .int .u64 y, .int .u64 c]).run P w = .ok (.tuple #[.int .u64 ((x - y - c) % 18446744073709551616), .int .u64 (if x < y + c then 1 else 0)]) w := by
  have key : ∀ k : Nat, k ≤ 1 → (sub64Entry #[.int .u64 x, .int .u64 y, .int .u64 (k : Int)]).run P w =
      .ok (Extern.MathBitsCarry.pair ((x.toNat + Extern.MathBitsCarry.m64 - y.toNat - k) % Extern.MathBitsCarry.m64) (if x.toNat < y.toNat + k then 1 else 0)) w := by
    intro k hk
    have : k = 0 ∨ k = 1 := by omega
    rcases this with rfl | rfl <;> rfl
  obtain ⟨k, rfl⟩ := Int.eq_ofNat_of_zero_le hc0
  rw [key k (by omega)]
  obtain ⟨X, rfl⟩ := Int.eq_ofNat_of_zero_le hx
  obtain ⟨Y, rfl⟩ := Int.eq_ofNat_of_zero_le hy
  simp only [Extern.MathBitsCarry.pair, Extern.MathBitsCarry.m64, Int.toNat_natCast]
  have e1 : (Int.ofNat ((X + 2 ^ 64 - Y - k) % 2 ^ 64) : Int) = ((X : Int) - Y - k) % 18446744073709551616 := by
    simp only [Int.ofNat_eq_natCast]; omega
  have e2 : (Int.ofNat (if X < Y + k then 1 else 0) : Int) = if (X : Int) < Y + k then 1 else 0 := by
    by_cases h : X < Y + k
    · rw [if_pos h, if_pos (by omega)]; rfl
    · rw [if_neg h, if_neg (by omega)]; rfl
  rw [e1, e2]

theorem callSub (x y c : Int) (hx : 0 ≤ x) (hy : 0 ≤ y) (hy1 : y < 18446744073709551616) (hc0 : 0 ≤ c) (hc : c ≤ 1) (w : World) :
    (callFunc 117 #[.int .u64 x, .int .u64 y, .int .u64 c]).run Tryz.prog w = .ok (.value (.tuple #[.int .u64 ((x - y - c) % 18446744073709551616), .int .u64 (if x < y + c then 1 else 0)])) w := by
  rw [run_callFunc_extern Tryz.func117 (by kernel_rfl) (by kernel_rfl) (by kernel_rfl) (e := sub64Entry) (by kernel_rfl), run_sub64 x y c hx hy hy1 hc0 hc]
  rfl

end Go.Proofs.YteipijgkiobmaabGreatDoor

/-
  The parts of a product on the lattice, and of Beta's powers: plain numbers, and what holds at the head of Beta's loop; no condition but the ones written.
-/
namespace Go.Proofs.YteipijgkiobmaabGreatDoor
open Go.RowKit

/-- The parts of a product on the lattice. -/
def mulA (a b c d : Int) : Int := a * c + -(b * d)
def mulB (a b c d : Int) : Int := a * d + b * c + b * d

/-- The parts of Beta's powers. -/
def bet : Nat → Int × Int
  | 0 => (1, 0)
  | i + 1 => (mulA (bet i).1 (bet i).2 2 1, mulB (bet i).1 (bet i).2 2 1)
theorem bet_fin : ∀ i : Fin 21, (decide (-2147483648 ≤ (bet i.val).1) && decide ((bet i.val).1 ≤ 2147483648) && decide (-2147483648 ≤ (bet i.val).2) && decide ((bet i.val).2 ≤ 2147483648)) = true := by decide +kernel
theorem bet_box (i : Nat) (h : i ≤ 20) : -2147483648 ≤ (bet i).1 ∧ (bet i).1 ≤ 2147483648 ∧ -2147483648 ≤ (bet i).2 ∧ (bet i).2 ≤ 2147483648 := by
  have := bet_fin ⟨i, by omega⟩
  simp only [Bool.and_eq_true, decide_eq_true_eq] at this
  omega

/-- What holds at the head of Beta's loop: the power so far lies in its variable, the result's place is there, and nothing old has turned. -/
def BetAt (w : World) (q : Nat) (wr : World) : Prop :=
  wr.cell? ⟨w.heap.size + 1, 0, none⟩ = some (.int .i64 (bet q).1) ∧ wr.cell? ⟨w.heap.size + 1, 1, none⟩ = some (.int .i64 (bet q).2) ∧
  wr.frozen? ⟨w.heap.size + 1, 0, none⟩ = false ∧ wr.frozen? ⟨w.heap.size + 1, 1, none⟩ = false ∧
  wr.cell? ⟨w.heap.size, 0, none⟩ = some (.int .i64 0) ∧ wr.cell? ⟨w.heap.size, 1, none⟩ = some (.int .i64 0) ∧
  wr.frozen? ⟨w.heap.size, 0, none⟩ = false ∧ wr.frozen? ⟨w.heap.size, 1, none⟩ = false ∧ Below w.heap.size w wr
end Go.Proofs.YteipijgkiobmaabGreatDoor

/-
  Plain facts on the lattices of thirteen sizes beneath the points of the world: where a centre lies, that it is nearest to itself, that what is nearest moves by whole steps, that a point lies in the closed hexagon of what is nearest to it; for any numbers, within the bounds written.
-/
namespace Go.Proofs.YteipijgkiobmaabGreatDoor
open Go.RowKit

/-- The Norm of Beta's K-th power: seven, K times with itself. -/
def sev (K : Nat) : Int := normE (bet K).1 (bet K).2
/-- The first part of its mirror, and the second. -/
def cjA (K : Nat) : Int := (bet K).1 + (bet K).2
def cjB (K : Nat) : Int := -(bet K).2
theorem sev_fin : ∀ i : Fin 13, (decide (sev i.val = 7 ^ i.val) && decide (1 ≤ sev i.val) && decide (sev i.val ≤ 13841287201)
    && decide (-262144 ≤ (bet i.val).1) && decide ((bet i.val).1 ≤ 262144) && decide (-262144 ≤ (bet i.val).2) && decide ((bet i.val).2 ≤ 262144) && decide (-262144 ≤ cjA i.val) && decide (cjA i.val ≤ 262144)
    && decide (-sev i.val ≤ (bet i.val).1) && decide ((bet i.val).1 ≤ sev i.val) && decide (-sev i.val ≤ (bet i.val).2) && decide ((bet i.val).2 ≤ sev i.val) && decide (-sev i.val ≤ cjA i.val) && decide (cjA i.val ≤ sev i.val)) = true := by decide +kernel
theorem sev_pow {K : Nat} (h : K ≤ 12) : sev K = 7 ^ K := by
  have := sev_fin ⟨K, by omega⟩
  simp only [Bool.and_eq_true, decide_eq_true_eq] at this
  exact this.1.1.1.1.1.1.1.1.1.1.1.1.1.1
theorem sev_box {K : Nat} (h : K ≤ 12) : 1 ≤ sev K ∧ sev K ≤ 13841287201 := by
  have := sev_fin ⟨K, by omega⟩
  simp only [Bool.and_eq_true, decide_eq_true_eq] at this
  omega
theorem bet_small {K : Nat} (h : K ≤ 12) : -262144 ≤ (bet K).1 ∧ (bet K).1 ≤ 262144 ∧ -262144 ≤ (bet K).2 ∧ (bet K).2 ≤ 262144 ∧ -262144 ≤ cjA K ∧ cjA K ≤ 262144 ∧ -262144 ≤ cjB K ∧ cjB K ≤ 262144 := by
  have := sev_fin ⟨K, by omega⟩
  simp only [Bool.and_eq_true, decide_eq_true_eq] at this
  unfold cjB
  omega
theorem bet_sev {K : Nat} (h : K ≤ 12) : -sev K ≤ (bet K).1 ∧ (bet K).1 ≤ sev K ∧ -sev K ≤ (bet K).2 ∧ (bet K).2 ≤ sev K ∧ -sev K ≤ cjA K ∧ cjA K ≤ sev K ∧ -sev K ≤ cjB K ∧ cjB K ≤ sev K := by
  have := sev_fin ⟨K, by omega⟩
  simp only [Bool.and_eq_true, decide_eq_true_eq] at this
  unfold cjB
  omega

/-- A product of two numbers within bounds. -/
theorem mul_in {a b A B : Int} (ha : -A ≤ a ∧ a ≤ A) (hb : -B ≤ b ∧ b ≤ B) : -(A * B) ≤ a * b ∧ a * b ≤ A * B := by
  have h : (a * b).natAbs ≤ A.natAbs * B.natAbs := by rw [Int.natAbs_mul]; exact Nat.mul_le_mul (by omega) (by omega)
  have g2 : (A.natAbs * B.natAbs : Nat) = (A * B).natAbs := by rw [Int.natAbs_mul]
  have g3 : 0 ≤ A * B := Int.mul_nonneg (by omega) (by omega)
  omega

/-- The point (x, y), times its whole, times the mirror of Beta's power. -/
def nuA (K : Nat) (x y : Int) : Int := (45 * x - 26 * y) * cjA K - 52 * y * cjB K
def nuB (K : Nat) (x y : Int) : Int := (45 * x - 26 * y) * cjB K + 52 * y * cjA K + 52 * y * cjB K
/-- What it is divided by. -/
def dvK (K : Nat) : Int := 2340 * sev K
theorem dvK_box {K : Nat} (h : K ≤ 12) : 1 ≤ dvK K ∧ dvK K ≤ 1125899906842624 := by
  have := sev_box h
  unfold dvK
  omega
/-- A point of the world. -/
def InW (x y : Int) : Prop := 0 ≤ x ∧ x < 1073741824 ∧ 0 ≤ y ∧ y < 1073741824
theorem nu_sev {K : Nat} {x y : Int} (h : K ≤ 12) (hw : InW x y) : -(104152956928 * sev K) ≤ nuA K x y ∧ nuA K x y ≤ 104152956928 * sev K ∧ -(104152956928 * sev K) ≤ nuB K x y ∧ nuB K x y ≤ 104152956928 * sev K := by
  obtain ⟨b1, b2, b3, b4, b5, b6, b7, b8⟩ := bet_sev h
  obtain ⟨x1, x2, y1, y2⟩ := hw
  have h1 := mul_in (a := 45 * x - 26 * y) (A := 48318382080) (b := cjA K) (B := sev K) (by omega) (by omega)
  have h2 := mul_in (a := 45 * x - 26 * y) (A := 48318382080) (b := cjB K) (B := sev K) (by omega) (by omega)
  have h3 := mul_in (a := 52 * y) (A := 55834574848) (b := cjB K) (B := sev K) (by omega) (by omega)
  have h4 := mul_in (a := 52 * y) (A := 55834574848) (b := (bet K).1) (B := sev K) (by omega) (by omega)
  have e : 52 * y * (bet K).1 = 52 * y * cjA K + 52 * y * cjB K := by unfold cjA cjB; grind
  rw [e] at h4
  unfold nuA nuB
  omega
theorem nu_box {K : Nat} {x y : Int} (h : K ≤ 12) (hw : InW x y) : -72057594037927936 ≤ nuA K x y ∧ nuA K x y ≤ 72057594037927936 ∧ -72057594037927936 ≤ nuB K x y ∧ nuB K x y ≤ 72057594037927936 := by
  obtain ⟨b1, b2, b3, b4, b5, b6, b7, b8⟩ := bet_small h
  obtain ⟨x1, x2, y1, y2⟩ := hw
  have h1 := mul_in (a := 45 * x - 26 * y) (A := 48318382080) (b := cjA K) (B := 262144) (by omega) (by omega)
  have h2 := mul_in (a := 45 * x - 26 * y) (A := 48318382080) (b := cjB K) (B := 262144) (by omega) (by omega)
  have h3 := mul_in (a := 52 * y) (A := 55834574848) (b := cjB K) (B := 262144) (by omega) (by omega)
  have h4 := mul_in (a := 52 * y) (A := 55834574848) (b := (bet K).1) (B := 262144) (by omega) (by omega)
  have e : 52 * y * (bet K).1 = 52 * y * cjA K + 52 * y * cjB K := by unfold cjA cjB; grind
  rw [e] at h4
  unfold nuA nuB
  omega

/-- The parts of what is nearest to a point are tame. -/
theorem near_tame {K : Nat} {x y a b : Int} (h : K ≤ 12) (hw : InW x y) (hn : Nearest (dvK K) (nuA K x y) (nuB K x y) a b) : -67108864 ≤ a ∧ a ≤ 67108864 ∧ -67108864 ≤ b ∧ b ≤ 67108864 := by
  have hs := (sev_box h).1
  have hu := nu_sev h hw
  have h1 := hn.1
  unfold HexAt Hex dvK at h1
  generalize nuA K x y = u at *
  generalize nuB K x y = v at *
  generalize sev K = S at *
  have ea : a * (2340 * S) = 2340 * (a * S) := by grind
  have eb : b * (2340 * S) = 2340 * (b * S) := by grind
  rw [ea, eb] at h1
  have big : ∀ j : Int, -(67108865 * S) < j * S → j * S < 67108865 * S → -67108864 ≤ j ∧ j ≤ 67108864 := by
    intro j h1 h2
    constructor
    · by_cases hj : -67108864 ≤ j
      · exact hj
      · exfalso
        have := Int.mul_le_mul_of_nonneg_right (show j ≤ -67108865 by omega) (show 0 ≤ S by omega)
        omega
    · by_cases hj : j ≤ 67108864
      · exact hj
      · exfalso
        have := Int.mul_le_mul_of_nonneg_right (show 67108865 ≤ j by omega) (show 0 ≤ S by omega)
        omega
  have ba := big a (by omega) (by omega)
  have bb := big b (by omega) (by omega)
  omega

/-- The centre of (a, b), in the finest lattice. -/
def ctA (K : Nat) (a b : Int) : Int := (bet K).1 * a - (bet K).2 * b
def ctB (K : Nat) (a b : Int) : Int := (bet K).1 * b + (bet K).2 * a + (bet K).2 * b
theorem ct_box {K : Nat} {a b : Int} (h : K ≤ 12) (ha : -4294967296 ≤ a ∧ a ≤ 4294967296) (hb : -4294967296 ≤ b ∧ b ≤ 4294967296) : -3377699720527872 ≤ ctA K a b ∧ ctA K a b ≤ 3377699720527872 ∧ -3377699720527872 ≤ ctB K a b ∧ ctB K a b ≤ 3377699720527872 := by
  obtain ⟨b1, b2, b3, b4, -, -, -, -⟩ := bet_small h
  have h1 := mul_in (a := (bet K).1) (A := 262144) (b := a) (B := 4294967296) (by omega) ha
  have h2 := mul_in (a := (bet K).1) (A := 262144) (b := b) (B := 4294967296) (by omega) hb
  have h3 := mul_in (a := (bet K).2) (A := 262144) (b := a) (B := 4294967296) (by omega) ha
  have h4 := mul_in (a := (bet K).2) (A := 262144) (b := b) (B := 4294967296) (by omega) hb
  unfold ctA ctB
  omega
/-- Where it lies. -/
def poX (K : Nat) (a b : Int) : Int := 52 * ctA K a b + 26 * ctB K a b
def poY (K : Nat) (a b : Int) : Int := 45 * ctB K a b

theorem nearest_moved {d u v a b i k : Int} (h : Nearest d u v a b) : Nearest d (u + d * i) (v + d * k) (a + i) (b + k) := by
  have key : ∀ x y, HexAt d (u + d * i) (v + d * k) x y ↔ HexAt d u v (x - i) (y - k) := fun x y => by
    unfold HexAt
    have e1 : u + d * i - x * d = u - (x - i) * d := by rw [Int.sub_mul, Int.mul_comm d i]; omega
    have e2 : v + d * k - y * d = v - (y - k) * d := by rw [Int.sub_mul, Int.mul_comm d k]; omega
    rw [e1, e2]
  constructor
  · rw [key, show a + i - i = a by omega, show b + k - k = b by omega]; exact h.1
  · intro x y hxy
    rw [key] at hxy
    have := h.2 _ _ hxy
    omega
theorem near_hex_zero {d x y : Int} (hd : 0 < d) (h : Hex d (-(x * d)) (-(y * d))) : x = 0 ∧ y = 0 := by
  unfold Hex at h
  have bd : ∀ j : Int, -d ≤ j * d → j * d ≤ d → -1 ≤ j ∧ j ≤ 1 := by
    intro j h1 h2
    constructor
    · by_cases hj : -1 ≤ j
      · exact hj
      · exfalso
        have := Int.mul_le_mul_of_nonneg_right (show j ≤ -2 by omega) (show 0 ≤ d by omega)
        omega
    · by_cases hj : j ≤ 1
      · exact hj
      · exfalso
        have := Int.mul_le_mul_of_nonneg_right (show 2 ≤ j by omega) (show 0 ≤ d by omega)
        omega
  have bx := bd x (by omega) (by omega)
  have by' := bd y (by omega) (by omega)
  have ci : x = -1 ∨ x = 0 ∨ x = 1 := by omega
  have ck : y = -1 ∨ y = 0 ∨ y = 1 := by omega
  rcases ci with rfl | rfl | rfl <;> rcases ck with rfl | rfl | rfl <;> omega
theorem nearest_whole {d i k : Int} (hd : 0 < d) : Nearest d (d * i) (d * k) i k := by
  have h0 : Nearest d 0 0 0 0 := by
    constructor
    · unfold HexAt Hex; simp; omega
    · intro x y h
      unfold HexAt at h
      rw [Int.zero_sub, Int.zero_sub] at h
      have hh := near_hex_zero hd h
      omega
  have := nearest_moved (i := i) (k := k) h0
  rwa [Int.zero_add, Int.zero_add, Int.zero_add, Int.zero_add] at this

/-- There is one that is nearest. -/
theorem nearest_some {d : Int} (hd : 1 ≤ d) (u v : Int) : ∃ a b, Nearest d u v a b := by
  have r1 := Int.emod_nonneg u (b := d) (by omega)
  have r2 := Int.emod_lt_of_pos u (b := d) (by omega)
  have r3 := Int.emod_nonneg v (b := d) (by omega)
  have r4 := Int.emod_lt_of_pos v (b := d) (by omega)
  have hp := pick_near r1 r2 r3 r4
  exact ⟨_, _, nearest_of (Int.mul_ediv_add_emod u d).symm (Int.mul_ediv_add_emod v d).symm hp.1 hp.2⟩
/-- A centre is nearest to itself. -/
theorem near_self {K : Nat} (h : K ≤ 12) (a b : Int) : Nearest (dvK K) (nuA K (poX K a b) (poY K a b)) (nuB K (poX K a b) (poY K a b)) a b := by
  have e1 : nuA K (poX K a b) (poY K a b) = dvK K * a := by unfold nuA dvK sev normE poX poY ctA ctB cjA cjB; grind
  have e2 : nuB K (poX K a b) (poY K a b) = dvK K * b := by unfold nuB dvK sev normE poX poY ctA ctB cjA cjB; grind
  rw [e1, e2]
  exact nearest_whole (by have := dvK_box h; omega)
/-- Of the finest lattice: what is nearest moves by whole steps. -/
theorem near_step {x y a b i k : Int} (h : Nearest (dvK 0) (nuA 0 x y) (nuB 0 x y) a b) : Nearest (dvK 0) (nuA 0 (x + 52 * i + 26 * k) (y + 45 * k)) (nuB 0 (x + 52 * i + 26 * k) (y + 45 * k)) (a + i) (b + k) := by
  have c1 : cjA 0 = 1 := rfl
  have c2 : cjB 0 = 0 := rfl
  have cd : dvK 0 = 2340 := rfl
  have e1 : nuA 0 (x + 52 * i + 26 * k) (y + 45 * k) = nuA 0 x y + dvK 0 * i := by unfold nuA; rw [c1, c2, cd]; omega
  have e2 : nuB 0 (x + 52 * i + 26 * k) (y + 45 * k) = nuB 0 x y + dvK 0 * k := by unfold nuB; rw [c1, c2, cd]; omega
  rw [e1, e2]
  exact nearest_moved h
/-- Each size's centres are some of the next finer one's. -/
theorem ct_down (K : Nat) (a b : Int) : ctA (K + 1) a b = ctA K (mulA a b 2 1) (mulB a b 2 1) ∧ ctB (K + 1) a b = ctB K (mulA a b 2 1) (mulB a b 2 1) := by
  have e : bet (K + 1) = (mulA (bet K).1 (bet K).2 2 1, mulB (bet K).1 (bet K).2 2 1) := rfl
  unfold ctA ctB
  rw [e]
  unfold mulA mulB
  constructor <;> grind
theorem sev_down (K : Nat) : sev (K + 1) = 7 * sev K := by
  have e : bet (K + 1) = (mulA (bet K).1 (bet K).2 2 1, mulB (bet K).1 (bet K).2 2 1) := rfl
  unfold sev
  rw [e]
  unfold mulA mulB normE
  grind

/-- The way to the i-th corner, in thirds of a step. -/
def wayA : Nat → Int
  | 0 => 1 | 1 => -1 | 2 => -2 | 3 => -1 | 4 => 1 | _ => 2
def wayB : Nat → Int
  | 0 => 1 | 1 => 2 | 2 => 1 | 3 => -1 | 4 => -2 | _ => -1
/-- The corner to which a way leads, in thirds. -/
def coX (K : Nat) (a b p q : Int) : Int := poX K (3 * a + p) (3 * b + q)
def coY (K : Nat) (a b p q : Int) : Int := poY K (3 * a + p) (3 * b + q)
theorem co_mirror (K : Nat) (a b p q : Int) : coX K a b p q + coX K a b (-p) (-q) = 6 * poX K a b ∧ coY K a b p q + coY K a b (-p) (-q) = 6 * poY K a b := by
  unfold coX coY poX poY ctA ctB
  constructor <;> grind

/-- On which side of the way from corner to corner a point lies: how far inside. -/
theorem side_eq (K : Nat) (a b x y p q r s : Int) :
    (coX K a b r s - coX K a b p q) * (3 * y - coY K a b p q) - (coY K a b r s - coY K a b p q) * (3 * x - coX K a b p q)
      = (r - p) * (3 * (nuB K x y - b * dvK K) - dvK K * q) - (s - q) * (3 * (nuA K x y - a * dvK K) - dvK K * p) := by
  unfold coX coY poX poY ctA ctB nuA nuB dvK sev normE cjA cjB
  grind
/-- Whether (x, y) is a point of the world. -/
def inWB (x y : Int) : Bool := decide (0 ≤ x ∧ x < 1073741824 ∧ 0 ≤ y ∧ y < 1073741824)
theorem inWB_yes {x y : Int} (h : inWB x y = true) : InW x y := by unfold InW; exact of_decide_eq_true h
theorem inWB_no {x y : Int} (h : inWB x y = false) : ¬ InW x y := by unfold InW; exact of_decide_eq_false h
theorem inWB_mk {x y : Int} (h : InW x y) : inWB x y = true := by unfold InW at h; exact decide_eq_true h
theorem inWB_not {x y : Int} (h : ¬ InW x y) : inWB x y = false := by unfold InW at h; exact decide_eq_false h
/-- The ending that tells a number of the lattice of which P holds. -/
def TellsP (P : Int → Int → Prop) (e : Ending) : Prop := ∃ a b : Int, e = .returned (.tuple #[.agg #[.int .i64 a, .int .i64 b], .bool true]) ∧ P a b
end Go.Proofs.YteipijgkiobmaabGreatDoor

/-
  What the library's Mul64 tells: the whole product in its halves, for any two numbers of 64 bits without a sign, in whatever memory.
-/
namespace Go.Proofs.YteipijgkiobmaabGreatDoor
open Go.RowKit Go.Shelf

def Tryz.lays264_ren : Go.Shelf.Ren := ⟨fun | 264 => 71 | n => n, fun | 53 => 22 | 46 => 55 | n => n, fun | n => n⟩
theorem Tryz.lays264 : Go.Proofs.Lays.n264 Tryz.prog Tryz.lays264_ren := {
  mixed := by kernel_rfl,
  f264 := Tryz.func71.trans (congrArg some (by kernel_rfl)),
  t46 := Tryz.underlying55,
  a46 := Tryz.isAgg55,
  z46 := Tryz.sizeOf55,
  v46 := Tryz.zeroValue55,
  t53 := Tryz.underlying22,
  a53 := Tryz.isAgg22,
  z53 := Tryz.sizeOf22,
  v53 := Tryz.zeroValue22 }

theorem mul64_any (p q : Int) (p0 : 0 ≤ p) (p1 : p ≤ 18446744073709551615) (q0 : 0 ≤ q) (q1 : q ≤ 18446744073709551615) (w : World) :
    Calls Tryz.prog 71 #[.int .u64 p, .int .u64 q] w fun e w' => e = .returned (.tuple #[.int .u64 (high64 (p * q)), .int .u64 (low64 (p * q))]) ∧ w' = w := by
  obtain ⟨P, rfl⟩ := Int.eq_ofNat_of_zero_le p0
  obtain ⟨Q, rfl⟩ := Int.eq_ofNat_of_zero_le q0
  have h := Any.bits_Mul64 Tryz.lays264 P Q (by omega) (by omega) w
  have hlt : P * Q < 18446744073709551616 * 18446744073709551616 := Nat.mul_lt_mul'' (by omega) (by omega)
  have e1 : ((P * Q / 18446744073709551616 : Nat) : Int) = high64 ((P : Int) * (Q : Int)) := by
    rw [← Int.natCast_mul]; unfold high64; omega
  have e2 : ((P * Q % 18446744073709551616 : Nat) : Int) = low64 ((P : Int) * (Q : Int)) := by
    rw [← Int.natCast_mul]; unfold low64; omega
  rw [e1, e2] at h
  exact h

end Go.Proofs.YteipijgkiobmaabGreatDoor

/-
  What the wide numbers of package eisen tell (product, plus, minus, narrow), for any whole numbers in their halves, in whatever memory.
-/
namespace Go.Proofs.YteipijgkiobmaabGreatDoor
open Go.RowKit Go.Shelf

set_option maxHeartbeats 400000 in
theorem eplus_raw (a b c d s cy t u : Int) (a1 : 0 ≤ a) (b1 : 0 ≤ b) (c1 : 0 ≤ c) (d1 : 0 ≤ d) (hs : (b + d + 0) % 18446744073709551616 = s) (hcy : (b + d + 0) / 18446744073709551616 = cy) (cy0 : 0 ≤ cy) (cy1 : cy ≤ 1)
    (ht : (a + c + cy) % 18446744073709551616 = t) (hu : (a + c + cy) / 18446744073709551616 = u) (w : World) :
    Calls Tryz.prog 115 #[.agg #[.int .u64 a, .int .u64 b], .agg #[.int .u64 c, .int .u64 d]] w fun e w' => e = .returned (.agg #[.int .u64 t, .int .u64 s]) ∧ Below w.heap.size w w' := by
  have f1 := fun w => callAdd b d 0 b1 d1 (by omega) (by omega) w
  rw [hs, hcy] at f1
  have f2 := fun w => callAdd a c cy a1 c1 cy0 cy1 w
  rw [ht, hu] at f2
  clear hs hcy ht hu
  go_enter Tryz.func115, Tryz.ntmps115
  go_wp2
  go_returns
  exact ⟨rfl, by go_grown⟩

theorem eplus_any (x y : Int) (w : World) :
    Calls Tryz.prog 115 #[.agg #[.int .u64 (high64 x), .int .u64 (low64 x)], .agg #[.int .u64 (high64 y), .int .u64 (low64 y)]] w fun e w' => e = .returned (.agg #[.int .u64 (high64 (x + y)), .int .u64 (low64 (x + y))]) ∧ Below w.heap.size w w' := by
  have hx := low64_bd x; have hy := low64_bd y; have kx := high64_bd x; have ky := high64_bd y
  refine eplus_raw (high64 x) (low64 x) (high64 y) (low64 y) (low64 (x + y)) ((low64 x + low64 y + 0) / 18446744073709551616) (high64 (x + y)) _ kx.1 hx.1 ky.1 hy.1 ?_ rfl (by omega) (by omega) ?_ rfl w
  · unfold low64; omega
  · unfold high64 low64; omega

set_option maxHeartbeats 400000 in
theorem eminus_raw (a b c d s cy t u : Int) (a1 : 0 ≤ a) (b1 : 0 ≤ b) (c1 : 0 ≤ c) (c2 : c < 18446744073709551616) (d1 : 0 ≤ d) (d2 : d < 18446744073709551616) (hs : (b - d - 0) % 18446744073709551616 = s) (hcy : (if b < d + 0 then (1 : Int) else 0) = cy) (cy0 : 0 ≤ cy) (cy1 : cy ≤ 1)
    (ht : (a - c - cy) % 18446744073709551616 = t) (hu : (if a < c + cy then (1 : Int) else 0) = u) (w : World) :
    Calls Tryz.prog 113 #[.agg #[.int .u64 a, .int .u64 b], .agg #[.int .u64 c, .int .u64 d]] w fun e w' => e = .returned (.agg #[.int .u64 t, .int .u64 s]) ∧ Below w.heap.size w w' := by
  have f1 := fun w => callSub b d 0 b1 d1 d2 (by omega) (by omega) w
  rw [hs, hcy] at f1
  have f2 := fun w => callSub a c cy a1 c1 c2 cy0 cy1 w
  rw [ht, hu] at f2
  clear hs hcy ht hu
  go_enter Tryz.func113, Tryz.ntmps113
  go_wp2
  go_returns
  exact ⟨rfl, by go_grown⟩

theorem eminus_any (x y : Int) (w : World) :
    Calls Tryz.prog 113 #[.agg #[.int .u64 (high64 x), .int .u64 (low64 x)], .agg #[.int .u64 (high64 y), .int .u64 (low64 y)]] w fun e w' => e = .returned (.agg #[.int .u64 (high64 (x - y)), .int .u64 (low64 (x - y))]) ∧ Below w.heap.size w w' := by
  have hx := low64_bd x; have hy := low64_bd y; have kx := high64_bd x; have ky := high64_bd y
  have hc : ∃ cy : Int, (if low64 x < low64 y + 0 then (1 : Int) else 0) = cy ∧ 0 ≤ cy ∧ cy ≤ 1 ∧ (low64 x < low64 y → cy = 1) ∧ (¬ low64 x < low64 y → cy = 0) := by
    by_cases h : low64 x < low64 y
    · exact ⟨1, if_pos (by omega), by omega, by omega, fun _ => rfl, fun k => absurd h k⟩
    · exact ⟨0, if_neg (by omega), by omega, by omega, fun k => absurd k h, fun _ => rfl⟩
  obtain ⟨cy, h1, h2, h3, h4, h5⟩ := hc
  refine eminus_raw (high64 x) (low64 x) (high64 y) (low64 y) (low64 (x - y)) cy (high64 (x - y)) _ kx.1 hx.1 ky.1 (by omega) hy.1 (by omega) ?_ h1 h2 h3 ?_ rfl w
  · unfold low64; omega
  · clear h1
    by_cases h : low64 x < low64 y
    · rw [h4 h]; clear h4 h5; unfold high64 low64 at *; omega
    · rw [h5 h]; clear h4 h5; unfold high64 low64 at *; omega

set_option maxHeartbeats 400000 in
theorem eprod_pp (a b s t : Int) (ha : ¬ a < 0) (hb : ¬ b < 0) (a2 : a ≤ 9223372036854775807) (b2 : b ≤ 9223372036854775807)
    (M : ∀ w, Calls Tryz.prog 71 #[.int .u64 a, .int .u64 b] w fun e w' => e = .returned (.tuple #[.int .u64 s, .int .u64 t]) ∧ w' = w) (w : World) :
    Calls Tryz.prog 112 #[.int .i64 a, .int .i64 b] w fun e w' => e = .returned (.agg #[.int .u64 s, .int .u64 t]) ∧ Below w.heap.size w w' := by
  have ha' := df ha
  have hb' := df hb
  replace M : Hid _ := M
  go_enter Tryz.func112, Tryz.ntmps112
  go_wp2_with fail
  refine (M.out _).mono ?_
  rintro e w1 ⟨rfl, rfl⟩
  go_wp2
  go_returns
  exact ⟨rfl, by go_grown⟩

set_option maxHeartbeats 400000 in
theorem eprod_nn (a b x y s t r q : Int) (ha : a < 0) (hb : b < 0) (hx : IntKind.u64.wrap a = x) (hy : IntKind.u64.wrap b = y) (hr : IntKind.u64.wrap (s - y) = r) (hq : IntKind.u64.wrap (r - x) = q)
    (M : ∀ w, Calls Tryz.prog 71 #[.int .u64 x, .int .u64 y] w fun e w' => e = .returned (.tuple #[.int .u64 s, .int .u64 t]) ∧ w' = w) (w : World) :
    Calls Tryz.prog 112 #[.int .i64 a, .int .i64 b] w fun e w' => e = .returned (.agg #[.int .u64 q, .int .u64 t]) ∧ Below w.heap.size w w' := by
  replace M : Hid _ := M
  go_enter Tryz.func112, Tryz.ntmps112
  go_wp2_with fail
  refine (M.out _).mono ?_
  rintro e w1 ⟨rfl, rfl⟩
  go_wp2
  go_returns
  exact ⟨rfl, by go_grown⟩

set_option maxHeartbeats 400000 in
theorem eprod_pn (a b y s t q : Int) (ha : ¬ a < 0) (hb : b < 0) (a2 : a ≤ 9223372036854775807) (hy : IntKind.u64.wrap b = y) (hq : IntKind.u64.wrap (s - a) = q)
    (M : ∀ w, Calls Tryz.prog 71 #[.int .u64 a, .int .u64 y] w fun e w' => e = .returned (.tuple #[.int .u64 s, .int .u64 t]) ∧ w' = w) (w : World) :
    Calls Tryz.prog 112 #[.int .i64 a, .int .i64 b] w fun e w' => e = .returned (.agg #[.int .u64 q, .int .u64 t]) ∧ Below w.heap.size w w' := by
  have ha' := df ha
  replace M : Hid _ := M
  go_enter Tryz.func112, Tryz.ntmps112
  go_wp2_with fail
  refine (M.out _).mono ?_
  rintro e w1 ⟨rfl, rfl⟩
  go_wp2
  go_returns
  exact ⟨rfl, by go_grown⟩

set_option maxHeartbeats 400000 in
theorem eprod_np (a b x s t q : Int) (ha : a < 0) (hb : ¬ b < 0) (b2 : b ≤ 9223372036854775807) (hx : IntKind.u64.wrap a = x) (hq : IntKind.u64.wrap (s - b) = q)
    (M : ∀ w, Calls Tryz.prog 71 #[.int .u64 x, .int .u64 b] w fun e w' => e = .returned (.tuple #[.int .u64 s, .int .u64 t]) ∧ w' = w) (w : World) :
    Calls Tryz.prog 112 #[.int .i64 a, .int .i64 b] w fun e w' => e = .returned (.agg #[.int .u64 q, .int .u64 t]) ∧ Below w.heap.size w w' := by
  have hb' := df hb
  replace M : Hid _ := M
  go_enter Tryz.func112, Tryz.ntmps112
  go_wp2_with fail
  refine (M.out _).mono ?_
  rintro e w1 ⟨rfl, rfl⟩
  go_wp2
  go_returns
  exact ⟨rfl, by go_grown⟩

theorem prod_shift (a b : Int) : (a + 18446744073709551616) * b = a * b + 18446744073709551616 * b := by rw [Int.add_mul]
theorem prod_shift2 (a b : Int) : a * (b + 18446744073709551616) = a * b + 18446744073709551616 * a := by rw [Int.mul_add, Int.mul_comm a 18446744073709551616]

/-- PRODUCT: the whole product, in its halves. -/
theorem eproduct_any (a b : Int) (a1 : -9223372036854775808 ≤ a) (a2 : a ≤ 9223372036854775807) (b1 : -9223372036854775808 ≤ b) (b2 : b ≤ 9223372036854775807) (w : World) :
    Calls Tryz.prog 112 #[.int .i64 a, .int .i64 b] w fun e w' => e = .returned (.agg #[.int .u64 (high64 (a * b)), .int .u64 (low64 (a * b))]) ∧ Below w.heap.size w w' := by
  by_cases ha : a < 0
  · have ex : IntKind.u64.wrap a = a + 18446744073709551616 := by rw [IntKind.wrap_u64]; omega
    by_cases hb : b < 0
    · have ey : IntKind.u64.wrap b = b + 18446744073709551616 := by rw [IntKind.wrap_u64]; omega
      have M := mul64_any (a + 18446744073709551616) (b + 18446744073709551616) (by omega) (by omega) (by omega) (by omega)
      have e : (a + 18446744073709551616) * (b + 18446744073709551616) = a * b + 18446744073709551616 * b + 18446744073709551616 * (a + 18446744073709551616) := by rw [prod_shift2, prod_shift]
      have el : low64 (a * b) = low64 ((a + 18446744073709551616) * (b + 18446744073709551616)) := by rw [e]; unfold low64; omega
      rw [el]
      refine eprod_nn a b _ _ _ _ _ _ ha hb ex ey rfl ?_ M w
      rw [IntKind.wrap_u64, IntKind.wrap_u64, e]; unfold high64; omega
    · have M := mul64_any (a + 18446744073709551616) b (by omega) (by omega) (by omega) (by omega)
      have e := prod_shift a b
      have el : low64 (a * b) = low64 ((a + 18446744073709551616) * b) := by rw [e]; unfold low64; omega
      rw [el]
      refine eprod_np a b _ _ _ _ ha hb b2 ex ?_ M w
      rw [IntKind.wrap_u64, e]; unfold high64; omega
  · by_cases hb : b < 0
    · have ey : IntKind.u64.wrap b = b + 18446744073709551616 := by rw [IntKind.wrap_u64]; omega
      have M := mul64_any a (b + 18446744073709551616) (by omega) (by omega) (by omega) (by omega)
      have e := prod_shift2 a b
      have el : low64 (a * b) = low64 (a * (b + 18446744073709551616)) := by rw [e]; unfold low64; omega
      rw [el]
      refine eprod_pn a b _ _ _ _ ha hb a2 ey ?_ M w
      rw [IntKind.wrap_u64, e]; unfold high64; omega
    · exact eprod_pp a b _ _ ha hb a2 b2 (mul64_any a b (by omega) (by omega) (by omega) (by omega)) w

set_option maxHeartbeats 400000 in
theorem enarrow_yes (a b m p : Int) (hm : wrap64 b = m) (m1 : -9223372036854775808 ≤ m) (m2 : m ≤ 9223372036854775807) (hp : IntKind.u64.wrap (m / 9223372036854775808) = p) (h : (a == p) = true) (w : World) :
    Calls Tryz.prog 114 #[.agg #[.int .u64 a, .int .u64 b]] w fun e w' => e = .returned (.tuple #[.int .i64 m, .bool true]) ∧ Below w.heap.size w w' := by
  subst hm
  go_enter Tryz.func114, Tryz.ntmps114
  go_wp2
  go_ret2
  exact ⟨rfl, by go_grown⟩

set_option maxHeartbeats 400000 in
theorem enarrow_no (a b m p : Int) (hm : wrap64 b = m) (hp : IntKind.u64.wrap (m / 9223372036854775808) = p) (h : (a == p) = false) (w : World) :
    Calls Tryz.prog 114 #[.agg #[.int .u64 a, .int .u64 b]] w fun e w' => e = .returned (.tuple #[.int .i64 0, .bool false]) ∧ Below w.heap.size w w' := by
  go_enter Tryz.func114, Tryz.ntmps114
  go_wp2
  go_ret2
  exact ⟨rfl, by go_grown⟩

/-- NARROW: the number, where it fits, of any whole number up to three times 2^126 either way. -/
theorem enarrow_any (z : Int) (z1 : -255211775190703847597530955573826158592 ≤ z) (z2 : z ≤ 255211775190703847597530955573826158592) (w : World) :
    Calls Tryz.prog 114 #[.agg #[.int .u64 (high64 z), .int .u64 (low64 z)]] w fun e w' => e = .returned (.tuple #[.int .i64 (kept z), .bool (fits z)]) ∧ Below w.heap.size w w' := by
  have hw : wrap64 (low64 z) = wrap64 z := by unfold wrap64 low64; omega
  have hb := wrap_bd z
  by_cases h : -9223372036854775808 ≤ z ∧ z ≤ 9223372036854775807
  · rw [kept_mk (fits_mk h), fits_mk h]
    have e := wrap_fits h
    rw [e] at hw hb
    refine enarrow_yes _ _ z _ hw hb.1 hb.2 rfl ?_ w
    rw [IntKind.wrap_u64, beq_iff_eq]; unfold high64; omega
  · rw [kept_no (fits_no h), fits_no h]
    refine enarrow_no _ _ (wrap64 z) _ hw rfl ?_ w
    have : ¬ high64 z = IntKind.u64.wrap (wrap64 z / 9223372036854775808) := by
      rw [IntKind.wrap_u64]; unfold high64 wrap64; omega
    simpa using this
end Go.Proofs.YteipijgkiobmaabGreatDoor

/-
  What Add, Sub, Neg and Mul of package num tell, for any two numbers of 64 bits, in whatever memory: the whole number where it fits, else nought and false.
-/
namespace Go.Proofs.YteipijgkiobmaabGreatDoor
open Go.RowKit

theorem hmf : ∀ (fn : Fn) (first cap : Array Value) (w : World), (Instr.makeFunc fn first cap).run Tryz.prog w = .ok (.func fn first cap) w := fun _ _ _ _ => rfl

set_option maxHeartbeats 400000 in
theorem add_fits (a b : Int) (_ha : -9223372036854775808 ≤ a) (_ha' : a ≤ 9223372036854775807) (h : -9223372036854775808 ≤ a + b) (h' : a + b ≤ 9223372036854775807) (w : World) :
    Calls Tryz.prog 58 #[.int .i64 a, .int .i64 b] w fun e w' => e = .returned (.tuple #[.int .i64 (a + b), .bool true]) ∧ Below w.heap.size w w' := by
  have hmf := hmf
  by_cases hp : 0 < b
  · have hq : a < a + b := by omega
    go_enter Tryz.func58, Tryz.ntmps58
    go_wp2
    go_quiet (fail)
    go_wp2
    go_ret2
    exact ⟨rfl, belowN (by go_grown) _⟩
  · have hq := df (show ¬ a < a + b by omega)
    have hr := df hp
    go_enter Tryz.func58, Tryz.ntmps58
    go_wp2
    go_quiet (fail)
    go_wp2
    go_ret2
    exact ⟨rfl, belowN (by go_grown) _⟩

set_option maxHeartbeats 400000 in
theorem add_over (a b : Int) (ha : -9223372036854775808 ≤ a) (ha' : a ≤ 9223372036854775807) (hb : -9223372036854775808 ≤ b) (hb' : b ≤ 9223372036854775807)
    (h : a + b < -9223372036854775808 ∨ 9223372036854775807 < a + b) (w : World) :
    Calls Tryz.prog 58 #[.int .i64 a, .int .i64 b] w fun e w' => e = .returned (.tuple #[.int .i64 0, .bool false]) ∧ Below w.heap.size w w' := by
  have hmf := hmf
  by_cases hp : 0 < b
  · obtain ⟨n, hn, hq⟩ : ∃ n, wrap64 (a + b) = n ∧ decide (a < n) = false := ⟨_, rfl, by unfold wrap64; exact df (by omega)⟩
    clear h
    go_enter Tryz.func58, Tryz.ntmps58
    go_wp2
    go_quiet (fail)
    go_wp2
    go_ret2
    exact ⟨rfl, belowN (by go_grown) _⟩
  · obtain ⟨n, hn, hq⟩ : ∃ n, wrap64 (a + b) = n ∧ a < n := ⟨_, rfl, by unfold wrap64; omega⟩
    have hr := df hp
    clear h
    go_enter Tryz.func58, Tryz.ntmps58
    go_wp2
    go_quiet (fail)
    go_wp2
    go_ret2
    exact ⟨rfl, belowN (by go_grown) _⟩

set_option maxHeartbeats 400000 in
theorem sub_fits (a b : Int) (_ha : -9223372036854775808 ≤ a) (_ha' : a ≤ 9223372036854775807) (h : -9223372036854775808 ≤ a - b) (h' : a - b ≤ 9223372036854775807) (w : World) :
    Calls Tryz.prog 51 #[.int .i64 a, .int .i64 b] w fun e w' => e = .returned (.tuple #[.int .i64 (a - b), .bool true]) ∧ Below w.heap.size w w' := by
  have hmf := hmf
  by_cases hp : 0 < b
  · have hq : a - b < a := by omega
    go_enter Tryz.func51, Tryz.ntmps51
    go_wp2
    go_quiet (fail)
    go_wp2
    go_ret2
    exact ⟨rfl, belowN (by go_grown) _⟩
  · have hq := df (show ¬ a - b < a by omega)
    have hr := df hp
    go_enter Tryz.func51, Tryz.ntmps51
    go_wp2
    go_quiet (fail)
    go_wp2
    go_ret2
    exact ⟨rfl, belowN (by go_grown) _⟩

set_option maxHeartbeats 400000 in
theorem sub_over (a b : Int) (ha : -9223372036854775808 ≤ a) (ha' : a ≤ 9223372036854775807) (hb : -9223372036854775808 ≤ b) (hb' : b ≤ 9223372036854775807)
    (h : a - b < -9223372036854775808 ∨ 9223372036854775807 < a - b) (w : World) :
    Calls Tryz.prog 51 #[.int .i64 a, .int .i64 b] w fun e w' => e = .returned (.tuple #[.int .i64 0, .bool false]) ∧ Below w.heap.size w w' := by
  have hmf := hmf
  by_cases hp : 0 < b
  · obtain ⟨n, hn, hq⟩ : ∃ n, wrap64 (a - b) = n ∧ decide (n < a) = false := ⟨_, rfl, by unfold wrap64; exact df (by omega)⟩
    clear h
    go_enter Tryz.func51, Tryz.ntmps51
    go_wp2
    go_quiet (fail)
    go_wp2
    go_ret2
    exact ⟨rfl, belowN (by go_grown) _⟩
  · obtain ⟨n, hn, hq⟩ : ∃ n, wrap64 (a - b) = n ∧ n < a := ⟨_, rfl, by unfold wrap64; omega⟩
    have hr := df hp
    clear h
    go_enter Tryz.func51, Tryz.ntmps51
    go_wp2
    go_quiet (fail)
    go_wp2
    go_ret2
    exact ⟨rfl, belowN (by go_grown) _⟩

set_option maxHeartbeats 400000 in
theorem neg_fits (b : Int) (h : -9223372036854775808 < b) (h' : b ≤ 9223372036854775807) (w : World) :
    Calls Tryz.prog 56 #[.int .i64 b] w fun e w' => e = .returned (.tuple #[.int .i64 (-b), .bool true]) ∧ Below w.heap.size w w' := by
  have hmf := hmf
  by_cases hp : 0 < b
  · have hq : -b < 0 := by omega
    go_enter Tryz.func56, Tryz.ntmps56
    go_wp2
    go_quiet (fail)
    go_wp2
    go_ret2
    exact ⟨rfl, belowN (by go_grown) _⟩
  · have hq := df (show ¬ -b < 0 by omega)
    have hr := df hp
    go_enter Tryz.func56, Tryz.ntmps56
    go_wp2
    go_quiet (fail)
    go_wp2
    go_ret2
    exact ⟨rfl, belowN (by go_grown) _⟩

set_option maxHeartbeats 400000 in
theorem neg_low (w : World) :
    Calls Tryz.prog 56 #[.int .i64 (-9223372036854775808)] w fun e w' => e = .returned (.tuple #[.int .i64 0, .bool false]) ∧ Below w.heap.size w w' := by
  have hmf := hmf
  obtain ⟨m, hm, hq⟩ : ∃ m, wrap64 9223372036854775808 = m ∧ m < 0 := ⟨_, rfl, by unfold wrap64; omega⟩
  go_enter Tryz.func56, Tryz.ntmps56
  go_wp2
  go_quiet (fail)
  go_wp2
  go_ret2
  exact ⟨rfl, belowN (by go_grown) _⟩
end Go.Proofs.YteipijgkiobmaabGreatDoor

/-
  What Floor of package num tells, for any numbers of 64 bits, in whatever memory.
-/
namespace Go.Proofs.YteipijgkiobmaabGreatDoor
open Go.RowKit

set_option maxHeartbeats 400000 in
theorem floor_no (a b : Int) (hb : b ≤ 0) (w : World) :
    Calls Tryz.prog 59 #[.int .i64 a, .int .i64 b] w fun e w' => e = .returned (.tuple #[.int .i64 0, .int .i64 0, .bool false]) ∧ Below w.heap.size w w' := by
  go_enter Tryz.func59, Tryz.ntmps59
  go_wp2
  go_ret3
  exact ⟨rfl, Below.refl _ _⟩

set_option maxHeartbeats 400000 in
theorem floor_up (a b : Int) (hb : 0 < b) (hz : ¬ b = 0) (h : 0 ≤ a) (h2 : a ≤ 9223372036854775807) (w : World) :
    Calls Tryz.prog 59 #[.int .i64 a, .int .i64 b] w fun e w' => e = .returned (.tuple #[.int .i64 (a / b), .int .i64 (a % b), .bool true]) ∧ Below w.heap.size w w' := by
  have hr : 0 ≤ a % b := Int.emod_nonneg _ hz
  go_enter Tryz.func59, Tryz.ntmps59
  go_wp2
  go_quiet (fail)
  go_wp2
  go_ret3
  exact ⟨rfl, belowN (Below.refl _ _) _⟩

set_option maxHeartbeats 400000 in
theorem floor_even (a b q r : Int) (hb : 0 < b) (hz : ¬ b = 0) (_h : a < 0) (hq : a.tdiv b = q) (hr : a.tmod b = r) (q1 : -9223372036854775808 ≤ q) (q2 : q ≤ 9223372036854775807) (r1 : -9223372036854775808 ≤ r) (r2 : r ≤ 9223372036854775807) (h0 : 0 ≤ r) (w : World) :
    Calls Tryz.prog 59 #[.int .i64 a, .int .i64 b] w fun e w' => e = .returned (.tuple #[.int .i64 q, .int .i64 r, .bool true]) ∧ Below w.heap.size w w' := by
  go_enter Tryz.func59, Tryz.ntmps59
  go_wp2
  go_quiet (fail)
  go_wp2
  go_ret3
  exact ⟨rfl, belowN (Below.refl _ _) _⟩

set_option maxHeartbeats 400000 in
theorem floor_odd (a b q r : Int) (hb : 0 < b) (hz : ¬ b = 0) (_h : a < 0) (hq : a.tdiv b = q) (hr : a.tmod b = r) (q1 : -9223372036854775807 ≤ q) (q2 : q ≤ 9223372036854775807) (r1 : -9223372036854775808 ≤ r) (r2 : r + b ≤ 9223372036854775807) (h0 : r < 0) (w : World) :
    Calls Tryz.prog 59 #[.int .i64 a, .int .i64 b] w fun e w' => e = .returned (.tuple #[.int .i64 (q - 1), .int .i64 (r + b), .bool true]) ∧ Below w.heap.size w w' := by
  go_enter Tryz.func59, Tryz.ntmps59
  go_wp2
  go_quiet (fail)
  go_wp2
  go_ret3
  exact ⟨rfl, belowN (Below.refl _ _) _⟩

/-- FLOOR, whatever is divided by a number above nought. -/
theorem floor_any (a b : Int) (a1 : -9223372036854775808 ≤ a) (a2 : a ≤ 9223372036854775807) (hb : 0 < b) (b2 : b ≤ 9223372036854775807) (w : World) :
    Calls Tryz.prog 59 #[.int .i64 a, .int .i64 b] w fun e w' => e = .returned (.tuple #[.int .i64 (a / b), .int .i64 (a % b), .bool true]) ∧ Below w.heap.size w w' := by
  by_cases h : 0 ≤ a
  · exact floor_up a b hb (by omega) h a2 w
  · have e := Int.mul_tdiv_add_tmod a b
    have q := tdiv_bd (a := b) a1 a2 (by omega)
    have r1 : a.tmod b = -((-a) % b) := by
      have := Int.neg_tmod (-a) b
      rw [Int.neg_neg] at this
      rw [this, Int.tmod_eq_emod_of_nonneg (by omega)]
    have r2 := Int.emod_nonneg (-a) (b := b) (by omega)
    have r3 := Int.emod_lt_of_pos (-a) hb
    by_cases h0 : 0 ≤ a.tmod b
    · have u := (Int.ediv_emod_unique (a := a) (r := a.tmod b) (q := a.tdiv b) hb).2 ⟨by omega, h0, by omega⟩
      rw [u.1, u.2]
      exact floor_even a b _ _ hb (by omega) (by omega) rfl rfl q.1 q.2 (by omega) (by omega) h0 w
    · have u := (Int.ediv_emod_unique (a := a) (r := a.tmod b + b) (q := a.tdiv b - 1) hb).2 ⟨by rw [Int.mul_sub]; omega, by omega, by omega⟩
      rw [u.1, u.2]
      have q1 : -9223372036854775807 ≤ a.tdiv b := by
        by_cases hm : a.tdiv b = -9223372036854775808
        · exfalso
          rw [hm] at e
          omega
        · omega
      exact floor_odd a b _ _ hb (by omega) (by omega) rfl rfl q1 q.2 (by omega) (by omega) (by omega) w
end Go.Proofs.YteipijgkiobmaabGreatDoor

/-
  Add, Sub, Neg, Mul and Shl of package num in one word each: the whole number kept where it fits, and whether it fits; for any numbers of 64 bits, in whatever memory.
-/
namespace Go.Proofs.YteipijgkiobmaabGreatDoor
open Go.RowKit

theorem add_any (a b : Int) (a1 : -9223372036854775808 ≤ a) (a2 : a ≤ 9223372036854775807) (b1 : -9223372036854775808 ≤ b) (b2 : b ≤ 9223372036854775807) (w : World) :
    Calls Tryz.prog 58 #[.int .i64 a, .int .i64 b] w fun e w' => e = .returned (.tuple #[.int .i64 (kept (a + b)), .bool (fits (a + b))]) ∧ Below w.heap.size w w' := by
  by_cases h : -9223372036854775808 ≤ a + b ∧ a + b ≤ 9223372036854775807
  · rw [kept_mk (fits_mk h), fits_mk h]; exact add_fits a b a1 a2 h.1 h.2 w
  · rw [kept_no (fits_no h), fits_no h]; exact add_over a b a1 a2 b1 b2 (by omega) w

theorem sub_any (a b : Int) (a1 : -9223372036854775808 ≤ a) (a2 : a ≤ 9223372036854775807) (b1 : -9223372036854775808 ≤ b) (b2 : b ≤ 9223372036854775807) (w : World) :
    Calls Tryz.prog 51 #[.int .i64 a, .int .i64 b] w fun e w' => e = .returned (.tuple #[.int .i64 (kept (a - b)), .bool (fits (a - b))]) ∧ Below w.heap.size w w' := by
  by_cases h : -9223372036854775808 ≤ a - b ∧ a - b ≤ 9223372036854775807
  · rw [kept_mk (fits_mk h), fits_mk h]; exact sub_fits a b a1 a2 h.1 h.2 w
  · rw [kept_no (fits_no h), fits_no h]; exact sub_over a b a1 a2 b1 b2 (by omega) w


theorem neg_any (b : Int) (b1 : -9223372036854775808 ≤ b) (b2 : b ≤ 9223372036854775807) (w : World) :
    Calls Tryz.prog 56 #[.int .i64 b] w fun e w' => e = .returned (.tuple #[.int .i64 (kept (-b)), .bool (fits (-b))]) ∧ Below w.heap.size w w' := by
  by_cases h : -9223372036854775808 ≤ -b ∧ -b ≤ 9223372036854775807
  · rw [kept_mk (fits_mk h), fits_mk h]; exact neg_fits b (by omega) b2 w
  · obtain rfl : b = -9223372036854775808 := by omega
    rw [kept_no (fits_no h), fits_no h]; exact neg_low w

end Go.Proofs.YteipijgkiobmaabGreatDoor

/-
  What Add, Sub, Mul, Conj and Norm of package eisen tell, for any numbers of the lattice with parts of 64 bits, in whatever memory: the parts, where both fit, else nought and false.
-/
namespace Go.Proofs.YteipijgkiobmaabGreatDoor
open Go.RowKit

/-- Both parts fit. -/
def both (x y : Int) : Bool := fits x && fits y
/-- A part, where both fit; else nought. -/
def keptA (x y : Int) : Int := if both x y = true then x else 0
def keptB (x y : Int) : Int := if both x y = true then y else 0
theorem both_mk {x y : Int} (h : fits x = true) (k : fits y = true) : both x y = true := by unfold both; rw [h, k]; rfl
theorem keptA_mk {x y : Int} (h : both x y = true) : keptA x y = x := if_pos h
theorem keptB_mk {x y : Int} (h : both x y = true) : keptB x y = y := if_pos h
theorem keptA_no {x y : Int} (h : both x y = false) : keptA x y = 0 := by unfold keptA; rw [h]; rfl
theorem keptB_no {x y : Int} (h : both x y = false) : keptB x y = 0 := by unfold keptB; rw [h]; rfl
theorem kept_same {x : Int} (h : both x x = true) : fits x = true := by unfold both at h; simpa using h

set_option maxHeartbeats 400000 in
theorem joined_yes (x y : Int) (w : World) :
    Calls Tryz.prog 52 #[.int .i64 x, .bool true, .int .i64 y, .bool true] w fun e w' => e = .returned (.tuple #[.agg #[.int .i64 x, .int .i64 y], .bool true]) ∧ Below w.heap.size w w' := by
  go_enter Tryz.func52, Tryz.ntmps52
  go_wp2
  exact bodyPost_ret (v := .tuple #[.agg #[.int .i64 x, .int .i64 y], .bool true]) (by simp [results, Tryz.results52, go_sem]) rfl ⟨rfl, by go_grown⟩
set_option maxHeartbeats 400000 in
theorem joined_first (x y : Int) (b : Bool) (w : World) :
    Calls Tryz.prog 52 #[.int .i64 x, .bool false, .int .i64 y, .bool b] w fun e w' => e = .returned (.tuple #[.agg #[.int .i64 0, .int .i64 0], .bool false]) ∧ Below w.heap.size w w' := by
  go_enter Tryz.func52, Tryz.ntmps52
  go_wp2
  exact bodyPost_ret (v := .tuple #[.agg #[.int .i64 0, .int .i64 0], .bool false]) (by simp [results, Tryz.results52, go_sem]) rfl ⟨rfl, by go_grown⟩
set_option maxHeartbeats 400000 in
theorem joined_other (x y : Int) (w : World) :
    Calls Tryz.prog 52 #[.int .i64 x, .bool true, .int .i64 y, .bool false] w fun e w' => e = .returned (.tuple #[.agg #[.int .i64 0, .int .i64 0], .bool false]) ∧ Below w.heap.size w w' := by
  go_enter Tryz.func52, Tryz.ntmps52
  go_wp2
  exact bodyPost_ret (v := .tuple #[.agg #[.int .i64 0, .int .i64 0], .bool false]) (by simp [results, Tryz.results52, go_sem]) rfl ⟨rfl, by go_grown⟩
theorem joined_any (x y : Int) (w : World) :
    Calls Tryz.prog 52 #[.int .i64 (kept x), .bool (fits x), .int .i64 (kept y), .bool (fits y)] w fun e w' => e = .returned (.tuple #[.agg #[.int .i64 (keptA x y), .int .i64 (keptB x y)], .bool (both x y)]) ∧ Below w.heap.size w w' := by
  cases hx : fits x with
  | false =>
    have hb : both x y = false := by unfold both; rw [hx]; rfl
    rw [hb, keptA_no hb, keptB_no hb]; exact joined_first _ _ _ w
  | true =>
    cases hy : fits y with
    | false =>
      have hb : both x y = false := by unfold both; rw [hx, hy]; rfl
      rw [hb, keptA_no hb, keptB_no hb]; exact joined_other _ _ w
    | true =>
      have hb := both_mk hx hy
      rw [hb, keptA_mk hb, keptB_mk hb, kept_mk hx, kept_mk hy]; exact joined_yes _ _ w

set_option maxHeartbeats 400000 in
theorem eadd_any (a b c d : Int) (a1 : -9223372036854775808 ≤ a) (a2 : a ≤ 9223372036854775807) (b1 : -9223372036854775808 ≤ b) (b2 : b ≤ 9223372036854775807) (k1 : -9223372036854775808 ≤ c) (k2 : c ≤ 9223372036854775807) (d1 : -9223372036854775808 ≤ d) (d2 : d ≤ 9223372036854775807) (w : World) :
    Calls Tryz.prog 35 #[.agg #[.int .i64 a, .int .i64 b], .agg #[.int .i64 c, .int .i64 d]] w fun e w' => e = .returned (.tuple #[.agg #[.int .i64 (keptA (a + c) (b + d)), .int .i64 (keptB (a + c) (b + d))], .bool (both (a + c) (b + d))]) ∧ Below w.heap.size w w' := by
  go_enter Tryz.func35, Tryz.ntmps35
  go_wp2_with fail
  refine (add_any a c a1 a2 k1 k2 _).mono ?_
  rintro e w1 ⟨rfl, c1⟩
  obtain ⟨hc, hf⟩ := bcell c1
  go_wp2_with fail
  refine (add_any b d b1 b2 d1 d2 _).mono ?_
  rintro e w2 ⟨rfl, c2⟩
  replace c2 := belowT c1 c2
  clear c1 hc hf
  obtain ⟨hc, hf⟩ := bcell c2
  go_wp2_with fail
  refine (joined_any (a + c) (b + d) _).mono ?_
  rintro e w3 ⟨rfl, c3⟩
  replace c3 := belowT c2 c3
  clear c2 hc hf
  obtain ⟨hc, hf⟩ := bcell c3
  have e0 : w3.cell? ⟨w.heap.size + 1 + 1, 0, none⟩ = some (.int .i64 0) := by rw [hc _ _ (by simp)]; go_simp
  have e1 : w3.cell? ⟨w.heap.size + 1 + 1, 1, none⟩ = some (.int .i64 0) := by rw [hc _ _ (by simp)]; go_simp
  obtain ⟨g0, g1⟩ := two_stores (u := .int .i64 (keptA (a + c) (b + d))) (v := .int .i64 (keptB (a + c) (b + d))) e0 e1
  have hB : Below w.heap.size w w3 := Below.trans (by go_grown) (c3.mono (by simp; try omega))
  go_wp2
  exact bodyPost_ret (v := .tuple #[.agg #[.int .i64 (keptA (a + c) (b + d)), .int .i64 (keptB (a + c) (b + d))], .bool (both (a + c) (b + d))]) (by simp [results, Tryz.results35, go_sem, g0, g1]) rfl ⟨rfl, (hB.setCell (by simp; try omega) _).setCell (by simp; try omega) _⟩

set_option maxHeartbeats 400000 in
theorem esub_any (a b c d : Int) (a1 : -9223372036854775808 ≤ a) (a2 : a ≤ 9223372036854775807) (b1 : -9223372036854775808 ≤ b) (b2 : b ≤ 9223372036854775807) (k1 : -9223372036854775808 ≤ c) (k2 : c ≤ 9223372036854775807) (d1 : -9223372036854775808 ≤ d) (d2 : d ≤ 9223372036854775807) (w : World) :
    Calls Tryz.prog 31 #[.agg #[.int .i64 a, .int .i64 b], .agg #[.int .i64 c, .int .i64 d]] w fun e w' => e = .returned (.tuple #[.agg #[.int .i64 (keptA (a - c) (b - d)), .int .i64 (keptB (a - c) (b - d))], .bool (both (a - c) (b - d))]) ∧ Below w.heap.size w w' := by
  go_enter Tryz.func31, Tryz.ntmps31
  go_wp2_with fail
  refine (sub_any a c a1 a2 k1 k2 _).mono ?_
  rintro e w1 ⟨rfl, c1⟩
  obtain ⟨hc, hf⟩ := bcell c1
  go_wp2_with fail
  refine (sub_any b d b1 b2 d1 d2 _).mono ?_
  rintro e w2 ⟨rfl, c2⟩
  replace c2 := belowT c1 c2
  clear c1 hc hf
  obtain ⟨hc, hf⟩ := bcell c2
  go_wp2_with fail
  refine (joined_any (a - c) (b - d) _).mono ?_
  rintro e w3 ⟨rfl, c3⟩
  replace c3 := belowT c2 c3
  clear c2 hc hf
  obtain ⟨hc, hf⟩ := bcell c3
  have e0 : w3.cell? ⟨w.heap.size + 1 + 1, 0, none⟩ = some (.int .i64 0) := by rw [hc _ _ (by simp)]; go_simp
  have e1 : w3.cell? ⟨w.heap.size + 1 + 1, 1, none⟩ = some (.int .i64 0) := by rw [hc _ _ (by simp)]; go_simp
  obtain ⟨g0, g1⟩ := two_stores (u := .int .i64 (keptA (a - c) (b - d))) (v := .int .i64 (keptB (a - c) (b - d))) e0 e1
  have hB : Below w.heap.size w w3 := Below.trans (by go_grown) (c3.mono (by simp; try omega))
  go_wp2
  exact bodyPost_ret (v := .tuple #[.agg #[.int .i64 (keptA (a - c) (b - d)), .int .i64 (keptB (a - c) (b - d))], .bool (both (a - c) (b - d))]) (by simp [results, Tryz.results31, go_sem, g0, g1]) rfl ⟨rfl, (hB.setCell (by simp; try omega) _).setCell (by simp; try omega) _⟩

set_option maxHeartbeats 400000 in
theorem econj_any (a b : Int) (a1 : -9223372036854775808 ≤ a) (a2 : a ≤ 9223372036854775807) (b1 : -9223372036854775808 ≤ b) (b2 : b ≤ 9223372036854775807) (w : World) :
    Calls Tryz.prog 118 #[.agg #[.int .i64 a, .int .i64 b]] w fun e w' => e = .returned (.tuple #[.agg #[.int .i64 (keptA (a + b) (-b)), .int .i64 (keptB (a + b) (-b))], .bool (both (a + b) (-b))]) ∧ Below w.heap.size w w' := by
  go_enter Tryz.func118, Tryz.ntmps118
  go_wp2_with fail
  refine (add_any a b a1 a2 b1 b2 _).mono ?_
  rintro e w1 ⟨rfl, c1⟩
  obtain ⟨hc, hf⟩ := bcell c1
  go_wp2_with fail
  refine (neg_any b b1 b2 _).mono ?_
  rintro e w2 ⟨rfl, c2⟩
  replace c2 := belowT c1 c2
  clear c1 hc hf
  obtain ⟨hc, hf⟩ := bcell c2
  go_wp2_with fail
  refine (joined_any (a + b) (-b) _).mono ?_
  rintro e w3 ⟨rfl, c3⟩
  replace c3 := belowT c2 c3
  clear c2 hc hf
  obtain ⟨hc, hf⟩ := bcell c3
  have e0 : w3.cell? ⟨w.heap.size + 1, 0, none⟩ = some (.int .i64 0) := by rw [hc _ _ (by simp)]; go_simp
  have e1 : w3.cell? ⟨w.heap.size + 1, 1, none⟩ = some (.int .i64 0) := by rw [hc _ _ (by simp)]; go_simp
  obtain ⟨g0, g1⟩ := two_stores (u := .int .i64 (keptA (a + b) (-b))) (v := .int .i64 (keptB (a + b) (-b))) e0 e1
  have hB : Below w.heap.size w w3 := Below.trans (by go_grown) (c3.mono (by simp; try omega))
  go_wp2
  exact bodyPost_ret (v := .tuple #[.agg #[.int .i64 (keptA (a + b) (-b)), .int .i64 (keptB (a + b) (-b))], .bool (both (a + b) (-b))]) (by simp [results, Tryz.results118, go_sem, g0, g1]) rfl ⟨rfl, (hB.setCell (by simp; try omega) _).setCell (by simp; try omega) _⟩

theorem prod126 {a b : Int} (a1 : -9223372036854775808 ≤ a) (a2 : a ≤ 9223372036854775807) (b1 : -9223372036854775808 ≤ b) (b2 : b ≤ 9223372036854775807) :
    -85070591730234615865843651857942052864 ≤ a * b ∧ a * b ≤ 85070591730234615865843651857942052864 := by
  have h : (a * b).natAbs ≤ 9223372036854775808 * 9223372036854775808 := by
    rw [Int.natAbs_mul]; exact Nat.mul_le_mul (by omega) (by omega)
  omega

theorem drewB (w : World) : Below w.heap.size w w.drew := (Below.refl _ _).drew
theorem keepEight {w0 a b : World} {p0 p1 p2 p3 p4 p5 p6 p7 : Addr} {v0 v1 v2 v3 v4 v5 v6 v7 : Value} (hb : Below a.heap.size a b)
    (h : a.cell? p0 = some v0 ∧ a.cell? p1 = some v1 ∧ a.cell? p2 = some v2 ∧ a.cell? p3 = some v3 ∧ a.cell? p4 = some v4 ∧ a.cell? p5 = some v5 ∧ a.cell? p6 = some v6 ∧ a.cell? p7 = some v7 ∧ a.frozen? p4 = false ∧ a.frozen? p5 = false ∧ Below w0.heap.size w0 a) :
    b.cell? p0 = some v0 ∧ b.cell? p1 = some v1 ∧ b.cell? p2 = some v2 ∧ b.cell? p3 = some v3 ∧ b.cell? p4 = some v4 ∧ b.cell? p5 = some v5 ∧ b.cell? p6 = some v6 ∧ b.cell? p7 = some v7 ∧ b.frozen? p4 = false ∧ b.frozen? p5 = false ∧ Below w0.heap.size w0 b := by
  obtain ⟨h0, h1, h2, h3, h4, h5, h6, h7, f4, f5, hw⟩ := h
  exact ⟨keepCell hb h0, keepCell hb h1, keepCell hb h2, keepCell hb h3, keepCell hb h4, keepCell hb h5, keepCell hb h6, keepCell hb h7, keepFrozen hb h4 f4, keepFrozen hb h5 f5, belowT hw hb⟩

set_option maxHeartbeats 4000000 in
theorem emul_any (a b c d : Int) (a1 : -9223372036854775808 ≤ a) (a2 : a ≤ 9223372036854775807) (b1 : -9223372036854775808 ≤ b) (b2 : b ≤ 9223372036854775807) (k1 : -9223372036854775808 ≤ c) (k2 : c ≤ 9223372036854775807) (d1 : -9223372036854775808 ≤ d) (d2 : d ≤ 9223372036854775807) (w : World) :
    Calls Tryz.prog 104 #[.agg #[.int .i64 a, .int .i64 b], .agg #[.int .i64 c, .int .i64 d]] w fun e w' => e = .returned (.tuple #[.agg #[.int .i64 (keptA (a * c - b * d) (a * d + b * c + b * d)), .int .i64 (keptB (a * c - b * d) (a * d + b * c + b * d))], .bool (both (a * c - b * d) (a * d + b * c + b * d))]) ∧ Below w.heap.size w w' := by
  have p1 := prod126 a1 a2 k1 k2
  have p2 := prod126 b1 b2 d1 d2
  have p3 := prod126 a1 a2 d1 d2
  have p4 := prod126 b1 b2 k1 k2
  have N1 : Hid (∀ w, Calls Tryz.prog 114 #[.agg #[.int .u64 (high64 (a * c - b * d)), .int .u64 (low64 (a * c - b * d))]] w fun e w' => e = .returned (.tuple #[.int .i64 (kept (a * c - b * d)), .bool (fits (a * c - b * d))]) ∧ Below w.heap.size w w') := fun w => enarrow_any _ (by omega) (by omega) w
  have N2 : Hid (∀ w, Calls Tryz.prog 114 #[.agg #[.int .u64 (high64 (a * d + b * c + b * d)), .int .u64 (low64 (a * d + b * c + b * d))]] w fun e w' => e = .returned (.tuple #[.int .i64 (kept (a * d + b * c + b * d)), .bool (fits (a * d + b * c + b * d))]) ∧ Below w.heap.size w w') := fun w => enarrow_any _ (by omega) (by omega) w
  clear p1 p2 p3 p4
  go_enter Tryz.func104, Tryz.ntmps104
  go_wp2_with fail
  refine (eproduct_any b d b1 b2 d1 d2 _).mono ?_
  rintro e w1 ⟨rfl, c1⟩
  obtain ⟨hc, hf⟩ := bcell c1
  have z1 : w.heap.size + 1 + 1 < w1.heap.size := by have := c1.size; simp at this; omega
  have hbw : Below w.heap.size w (w1.alloc (.cells #[.int .u64 (high64 (b * d)), .int .u64 (low64 (b * d))] 152)).drew := ((Below.trans (by go_grown) (c1.mono (by simp; omega))).alloc (by omega) _).drew
  have hx : Below w1.heap.size w1 (w1.alloc (.cells #[.int .u64 (high64 (b * d)), .int .u64 (low64 (b * d))] 152)).drew := ((Below.refl _ _).alloc (Nat.le_refl _) _).drew
  have k0' : w1.cell? ⟨w.heap.size, 0, none⟩ = some (.int .i64 a) := by rw [hc _ _ (by simp; try omega)]; go_simp
  have s0 : (w1.alloc (.cells #[.int .u64 (high64 (b * d)), .int .u64 (low64 (b * d))] 152)).drew.cell? ⟨w.heap.size, 0, none⟩ = some (.int .i64 a) := keepCell hx k0'
  have k1' : w1.cell? ⟨w.heap.size, 1, none⟩ = some (.int .i64 b) := by rw [hc _ _ (by simp; try omega)]; go_simp
  have s1 : (w1.alloc (.cells #[.int .u64 (high64 (b * d)), .int .u64 (low64 (b * d))] 152)).drew.cell? ⟨w.heap.size, 1, none⟩ = some (.int .i64 b) := keepCell hx k1'
  have k2' : w1.cell? ⟨w.heap.size + 1, 0, none⟩ = some (.int .i64 c) := by rw [hc _ _ (by simp; try omega)]; go_simp
  have s2 : (w1.alloc (.cells #[.int .u64 (high64 (b * d)), .int .u64 (low64 (b * d))] 152)).drew.cell? ⟨w.heap.size + 1, 0, none⟩ = some (.int .i64 c) := keepCell hx k2'
  have k3' : w1.cell? ⟨w.heap.size + 1, 1, none⟩ = some (.int .i64 d) := by rw [hc _ _ (by simp; try omega)]; go_simp
  have s3 : (w1.alloc (.cells #[.int .u64 (high64 (b * d)), .int .u64 (low64 (b * d))] 152)).drew.cell? ⟨w.heap.size + 1, 1, none⟩ = some (.int .i64 d) := keepCell hx k3'
  have k4' : w1.cell? ⟨w.heap.size + 1 + 1, 0, none⟩ = some (.int .i64 0) := by rw [hc _ _ (by simp; try omega)]; go_simp
  have s4 : (w1.alloc (.cells #[.int .u64 (high64 (b * d)), .int .u64 (low64 (b * d))] 152)).drew.cell? ⟨w.heap.size + 1 + 1, 0, none⟩ = some (.int .i64 0) := keepCell hx k4'
  have k5' : w1.cell? ⟨w.heap.size + 1 + 1, 1, none⟩ = some (.int .i64 0) := by rw [hc _ _ (by simp; try omega)]; go_simp
  have s5 : (w1.alloc (.cells #[.int .u64 (high64 (b * d)), .int .u64 (low64 (b * d))] 152)).drew.cell? ⟨w.heap.size + 1 + 1, 1, none⟩ = some (.int .i64 0) := keepCell hx k5'
  have f4' : w1.frozen? ⟨w.heap.size + 1 + 1, 0, none⟩ = false := by rw [hf _ _ (by simp; try omega)]; go_simp
  have f4 : (w1.alloc (.cells #[.int .u64 (high64 (b * d)), .int .u64 (low64 (b * d))] 152)).drew.frozen? ⟨w.heap.size + 1 + 1, 0, none⟩ = false := keepFrozen hx k4' f4'
  have f5' : w1.frozen? ⟨w.heap.size + 1 + 1, 1, none⟩ = false := by rw [hf _ _ (by simp; try omega)]; go_simp
  have f5 : (w1.alloc (.cells #[.int .u64 (high64 (b * d)), .int .u64 (low64 (b * d))] 152)).drew.frozen? ⟨w.heap.size + 1 + 1, 1, none⟩ = false := keepFrozen hx k5' f5'
  have s6 : (w1.alloc (.cells #[.int .u64 (high64 (b * d)), .int .u64 (low64 (b * d))] 152)).drew.cell? ⟨w1.heap.size, 0, none⟩ = some (.int .u64 (high64 (b * d))) := by go_simp
  have s7 : (w1.alloc (.cells #[.int .u64 (high64 (b * d)), .int .u64 (low64 (b * d))] 152)).drew.cell? ⟨w1.heap.size, 1, none⟩ = some (.int .u64 (low64 (b * d))) := by go_simp
  clear k0' k1' k2' k3' k4' k5' f4' f5' hc hf hx
  go_wp2_with fail
  go_region_held3 (fun w' => w'.cell? ⟨w.heap.size, 0, none⟩ = some (.int .i64 a) ∧ w'.cell? ⟨w.heap.size, 1, none⟩ = some (.int .i64 b) ∧ w'.cell? ⟨w.heap.size + 1, 0, none⟩ = some (.int .i64 c) ∧ w'.cell? ⟨w.heap.size + 1, 1, none⟩ = some (.int .i64 d) ∧ w'.cell? ⟨w.heap.size + 1 + 1, 0, none⟩ = some (.int .i64 0) ∧ w'.cell? ⟨w.heap.size + 1 + 1, 1, none⟩ = some (.int .i64 0) ∧ w'.cell? ⟨w1.heap.size, 0, none⟩ = some (.int .u64 (high64 (b * d))) ∧ w'.cell? ⟨w1.heap.size, 1, none⟩ = some (.int .u64 (low64 (b * d))) ∧ w'.frozen? ⟨w.heap.size + 1 + 1, 0, none⟩ = false ∧ w'.frozen? ⟨w.heap.size + 1 + 1, 1, none⟩ = false ∧ Below w.heap.size w w') (first | exact ⟨s0, s1, s2, s3, s4, s5, s6, s7, f4, f5, hbw⟩ | exact keepEight hb (by assumption))
    (first | (go_at_call 112; refine (eproduct_any _ _ (by assumption) (by assumption) (by assumption) (by assumption) _).mono ?_; rintro e w' ⟨rfl, hb⟩) | (go_at_call 113; refine (eminus_any _ _ _).mono ?_; rintro e w' ⟨rfl, hb⟩) | (go_at_call 114; refine (N1.out _).mono ?_; rintro e w' ⟨rfl, hb⟩))
  rename_i hH
  clear s0 s1 s2 s3 s4 s5 s6 s7 f4 f5 hbw N1
  go_wp2_with fail
  go_region_held3 (fun w' => w'.cell? ⟨w.heap.size, 0, none⟩ = some (.int .i64 a) ∧ w'.cell? ⟨w.heap.size, 1, none⟩ = some (.int .i64 b) ∧ w'.cell? ⟨w.heap.size + 1, 0, none⟩ = some (.int .i64 c) ∧ w'.cell? ⟨w.heap.size + 1, 1, none⟩ = some (.int .i64 d) ∧ w'.cell? ⟨w.heap.size + 1 + 1, 0, none⟩ = some (.int .i64 0) ∧ w'.cell? ⟨w.heap.size + 1 + 1, 1, none⟩ = some (.int .i64 0) ∧ w'.cell? ⟨w1.heap.size, 0, none⟩ = some (.int .u64 (high64 (b * d))) ∧ w'.cell? ⟨w1.heap.size, 1, none⟩ = some (.int .u64 (low64 (b * d))) ∧ w'.frozen? ⟨w.heap.size + 1 + 1, 0, none⟩ = false ∧ w'.frozen? ⟨w.heap.size + 1 + 1, 1, none⟩ = false ∧ Below w.heap.size w w') (first | exact keepEight hb (by assumption) | exact keepEight (drewB _) (by assumption))
    (first | (go_at_call 112; refine (eproduct_any _ _ (by assumption) (by assumption) (by assumption) (by assumption) _).mono ?_; rintro e w' ⟨rfl, hb⟩) | (go_at_call 115; refine (eplus_any _ _ _).mono ?_; rintro e w' ⟨rfl, hb⟩) | (go_at_call 114; refine (N2.out _).mono ?_; rintro e w' ⟨rfl, hb⟩))
  rename_i hH
  go_wp2_with fail
  refine (joined_any (a * c - b * d) (a * d + b * c + b * d) _).mono ?_
  rintro e w9 ⟨rfl, c9⟩
  obtain ⟨-, -, -, -, e0, e1, -, -, f0, f1, hB⟩ := keepEight c9 hH
  obtain ⟨g0, g1⟩ := two_stores (u := .int .i64 (keptA (a * c - b * d) (a * d + b * c + b * d))) (v := .int .i64 (keptB (a * c - b * d) (a * d + b * c + b * d))) e0 e1
  go_wp2
  exact bodyPost_ret (v := .tuple #[.agg #[.int .i64 (keptA (a * c - b * d) (a * d + b * c + b * d)), .int .i64 (keptB (a * c - b * d) (a * d + b * c + b * d))], .bool (both (a * c - b * d) (a * d + b * c + b * d))]) (by simp [results, Tryz.results104, go_sem, g0, g1]) rfl ⟨rfl, (hB.setCell (by simp; try omega) _).setCell (by simp; try omega) _⟩
theorem keepTwo {w0 a b : World} {p0 p1 : Addr} {v0 v1 : Value} (hb : Below a.heap.size a b) (h : a.cell? p0 = some v0 ∧ a.cell? p1 = some v1 ∧ Below w0.heap.size w0 a) :
    b.cell? p0 = some v0 ∧ b.cell? p1 = some v1 ∧ Below w0.heap.size w0 b := ⟨keepCell hb h.1, keepCell hb h.2.1, belowT h.2.2 hb⟩
end Go.Proofs.YteipijgkiobmaabGreatDoor

/-
  A number of 64 bits with a sign, taken bit by bit with 2^j - 1, is its remainder by 2^j: for any number and any j up to 62.
-/
namespace Go.Proofs.YteipijgkiobmaabGreatDoor
open Go.RowKit

theorem i64_mask (n : Int) (j : Nat) (hj : j < 63) : bits .and .i64 n ((2 ^ j - 1 : Nat) : Int) = n % ((2 ^ j : Nat) : Int) := by
  have hp : (2 : Nat) ^ j ∣ 2 ^ 64 := Nat.pow_dvd_pow 2 (by omega)
  have hle : (2 : Nat) ^ j ≤ 2 ^ 62 := Nat.pow_le_pow_right (by omega) (by omega)
  have hpos : 0 < (2 : Nat) ^ j := Nat.pow_pos (by omega)
  have hm : (BitVec.ofInt 64 ((2 ^ j - 1 : Nat) : Int)).toNat = 2 ^ j - 1 := ofInt_u64 _ (by omega)
  have hn : ((BitVec.ofInt 64 n).toNat : Int) = n % 18446744073709551616 := by
    rw [BitVec.toNat_ofInt]
    have : 0 ≤ n % 18446744073709551616 := Int.emod_nonneg _ (by omega)
    show ((n % ((2 ^ 64 : Nat) : Int)).toNat : Int) = _
    have e : ((2 ^ 64 : Nat) : Int) = 18446744073709551616 := by decide
    rw [e]
    exact Int.toNat_of_nonneg this
  show IntKind.i64.wrap ((BitVec.ofInt 64 n &&& BitVec.ofInt 64 ((2 ^ j - 1 : Nat) : Int)).toNat : Int) = _
  rw [BitVec.toNat_and, hm, Nat.and_two_pow_sub_one_eq_mod]
  have e3 : (((BitVec.ofInt 64 n).toNat % 2 ^ j : Nat) : Int) = n % ((2 ^ j : Nat) : Int) := by
    rw [Int.natCast_emod, hn]
    obtain ⟨c, hc⟩ := hp
    have e : (18446744073709551616 : Int) = ((2 ^ j : Nat) : Int) * (c : Int) := by
      rw [← Int.natCast_mul, ← hc]; decide
    exact Int.emod_emod_of_dvd n ⟨_, e⟩
  rw [e3, IntWalk.i64_left]
  have h1 := Int.emod_nonneg n (b := ((2 ^ j : Nat) : Int)) (by omega)
  have h2 := Int.emod_lt_of_pos n (b := ((2 ^ j : Nat) : Int)) (by omega)
  exact wrap_fits ⟨by omega, by omega⟩

theorem mask16 (n : Int) : bits .and .i64 n 65535 = n % 65536 := by
  have := i64_mask n 16 (by omega)
  simpa using this
theorem mask5 (n : Int) : bits .and .i64 n 31 = n % 32 := by
  have := i64_mask n 5 (by omega)
  simpa using this
theorem mask10 (n : Int) : bits .and .i64 n 1023 = n % 1024 := by
  have := i64_mask n 10 (by omega)
  simpa using this
theorem mask30 (n : Int) : bits .and .i64 n 1073741823 = n % 1073741824 := by
  have := i64_mask n 30 (by omega)
  simpa using this
theorem mask3 (n : Int) : bits .and .i64 n 7 = n % 8 := by
  have := i64_mask n 3 (by omega)
  simpa using this
/-- A remainder by truncation lies near nought. -/
theorem tmod_box (n m : Int) (hm : 0 < m) : -m < n.tmod m ∧ n.tmod m < m := by
  have h : (n.tmod m).natAbs = n.natAbs % m.natAbs := Int.natAbs_tmod n m
  have h2 := Nat.mod_lt n.natAbs (show 0 < m.natAbs by omega)
  omega
end Go.Proofs.YteipijgkiobmaabGreatDoor

/-
  What package eisen's calls tell where all parts are small: the parts themselves, and true; for any numbers of the lattice within the bounds written, in whatever memory.
-/
namespace Go.Proofs.YteipijgkiobmaabGreatDoor
open Go.RowKit

theorem store_keep {w : World} {p q : Addr} {v u : Value} (h : w.cell? p = some v) (ne : q ≠ p) : (w.setCell q u).cell? p = some v := (World.cell?_setCell_other _ _ _ _ ne).trans h
theorem store_new {w : World} {p : Addr} {x u : Value} (h : w.cell? p = some x) : (w.setCell p u).cell? p = some u := World.cell?_setCell_same _ _ _ h

/-- A number of the lattice that was just made: nought, in a block that may be written. -/
def NewE (B : Nat) (w : World) : Prop := w.cell? ⟨B, 0, none⟩ = some (.int .i64 0) ∧ w.cell? ⟨B, 1, none⟩ = some (.int .i64 0) ∧ w.frozen? ⟨B, 0, none⟩ = false ∧ w.frozen? ⟨B, 1, none⟩ = false
theorem new_alloc (w : World) : NewE w.heap.size (w.alloc (.cells #[.int .i64 0, .int .i64 0] 35)) := ⟨by go_simp, by go_simp, by go_simp, by go_simp⟩
theorem keepNew {B : Nat} {a b : World} (hb : Below a.heap.size a b) (h : NewE B a) : NewE B b := ⟨keepCell hb h.1, keepCell hb h.2.1, keepFrozen hb h.1 h.2.2.1, keepFrozen hb h.2.1 h.2.2.2⟩
theorem allocB (w : World) (o : Obj) : Below w.heap.size w (w.alloc o) := (Below.refl _ _).alloc (Nat.le_refl _) _
theorem keepTwoStore {w0 a : World} {p0 p1 : Addr} {B : Nat} {v0 v1 x y : Value} (n0 : B ≠ p0.block) (n1 : B ≠ p1.block) (hB : w0.heap.size ≤ B) (h : a.cell? p0 = some v0 ∧ a.cell? p1 = some v1 ∧ Below w0.heap.size w0 a) :
    ((a.setCell ⟨B, 0, none⟩ x).setCell ⟨B, 1, none⟩ y).cell? p0 = some v0 ∧ ((a.setCell ⟨B, 0, none⟩ x).setCell ⟨B, 1, none⟩ y).cell? p1 = some v1 ∧ Below w0.heap.size w0 ((a.setCell ⟨B, 0, none⟩ x).setCell ⟨B, 1, none⟩ y) := by
  have f : ∀ (p : Addr) (o : Nat), B ≠ p.block → (⟨B, o, none⟩ : Addr) ≠ p := fun p o h e => h (by rw [← e])
  exact ⟨store_keep (store_keep h.1 (f _ _ n0)) (f _ _ n0), store_keep (store_keep h.2.1 (f _ _ n1)) (f _ _ n1), (h.2.2.setCell hB _).setCell hB _⟩

theorem swapB {w0 a : World} {o o' : Obj} (hs : w0.heap.size ≤ a.heap.size) (h : Below w0.heap.size w0 (a.alloc o)) : Below w0.heap.size w0 (a.alloc o') := by
  have h1 := allocB a o
  have h2 := allocB a o'
  obtain ⟨e1, e2, e3, e4, e5⟩ := h
  refine ⟨e1, e2, e3, by have := h2.size; omega, fun i hi => ?_⟩
  have k1 := h1.block i (by omega)
  have k2 := h2.block i (by omega)
  exact (k2.trans k1.symm).trans (e5 i hi)
theorem keepTwoSwap {w0 a : World} {o o' : Obj} {p0 p1 : Addr} {v0 v1 : Value} (q0 : p0.block < a.heap.size) (q1 : p1.block < a.heap.size) (hs : w0.heap.size ≤ a.heap.size) (h : (a.alloc o).cell? p0 = some v0 ∧ (a.alloc o).cell? p1 = some v1 ∧ Below w0.heap.size w0 (a.alloc o)) :
    (a.alloc o').cell? p0 = some v0 ∧ (a.alloc o').cell? p1 = some v1 ∧ Below w0.heap.size w0 (a.alloc o') :=
  ⟨((allocB a o').cell q0).trans (((allocB a o).cell q0).symm.trans h.1), ((allocB a o').cell q1).trans (((allocB a o).cell q1).symm.trans h.2.1), swapB hs h.2.2⟩

theorem norm_small {x y B : Int} (h : -B ≤ x ∧ x ≤ B ∧ -B ≤ y ∧ y ≤ B) : normE x y ≤ 3 * (B * B) := by
  have sq : ∀ x y : Int, -B ≤ x → x ≤ B → -B ≤ y → y ≤ B → x * y ≤ B * B := fun x y x1 x2 y1 y2 => by
    have h : (x * y).natAbs ≤ B.natAbs * B.natAbs := by rw [Int.natAbs_mul]; exact Nat.mul_le_mul (by omega) (by omega)
    have g2 : (B.natAbs * B.natAbs : Nat) = (B * B).natAbs := by rw [Int.natAbs_mul]
    have g3 : 0 ≤ B * B := by have := sq_ge B; omega
    omega
  have h1 := sq x x h.1 h.2.1 h.1 h.2.1
  have h2 := sq x y h.1 h.2.1 h.2.2.1 h.2.2.2
  have h3 := sq y y h.2.2.1 h.2.2.2 h.2.2.1 h.2.2.2
  unfold normE
  omega

theorem keepSix {w0 a b : World} {p0 p1 p2 p3 p4 p5 : Addr} {v0 v1 v2 v3 v4 v5 : Value} (hb : Below a.heap.size a b) (h : a.cell? p0 = some v0 ∧ a.cell? p1 = some v1 ∧ a.cell? p2 = some v2 ∧ a.cell? p3 = some v3 ∧ a.cell? p4 = some v4 ∧ a.cell? p5 = some v5 ∧ Below w0.heap.size w0 a) : b.cell? p0 = some v0 ∧ b.cell? p1 = some v1 ∧ b.cell? p2 = some v2 ∧ b.cell? p3 = some v3 ∧ b.cell? p4 = some v4 ∧ b.cell? p5 = some v5 ∧ Below w0.heap.size w0 b :=
  ⟨keepCell hb h.1, keepCell hb h.2.1, keepCell hb h.2.2.1, keepCell hb h.2.2.2.1, keepCell hb h.2.2.2.2.1, keepCell hb h.2.2.2.2.2.1, belowT h.2.2.2.2.2.2 hb⟩

theorem emul_small (a b c d X Y : Int) (hX : a * c - b * d = X) (hY : a * d + b * c + b * d = Y) (a1 : -4611686018427387903 ≤ a) (a2 : a ≤ 4611686018427387903) (b1 : -4611686018427387903 ≤ b) (b2 : b ≤ 4611686018427387903) (k1 : -4611686018427387903 ≤ c) (k2 : c ≤ 4611686018427387903) (d1 : -4611686018427387903 ≤ d) (d2 : d ≤ 4611686018427387903) (X1 : -9223372036854775808 ≤ X) (X2 : X ≤ 9223372036854775807) (Y1 : -9223372036854775808 ≤ Y) (Y2 : Y ≤ 9223372036854775807) (w : World) :
    Calls Tryz.prog 104 #[.agg #[.int .i64 a, .int .i64 b], .agg #[.int .i64 c, .int .i64 d]] w fun e w' => e = .returned (.tuple #[.agg #[.int .i64 X, .int .i64 Y], .bool true]) ∧ Below w.heap.size w w' := by
  have h := emul_any a b c d (by omega) (by omega) (by omega) (by omega) (by omega) (by omega) (by omega) (by omega) w
  rw [hX, hY] at h
  have hb := both_mk (fits_mk ⟨X1, X2⟩) (fits_mk ⟨Y1, Y2⟩)
  rw [hb, keptA_mk hb, keptB_mk hb] at h
  exact h
theorem eadd_small (a b c d X Y : Int) (hX : a + c = X) (hY : b + d = Y) (a1 : -4611686018427387903 ≤ a) (a2 : a ≤ 4611686018427387903) (b1 : -4611686018427387903 ≤ b) (b2 : b ≤ 4611686018427387903) (k1 : -4611686018427387903 ≤ c) (k2 : c ≤ 4611686018427387903) (d1 : -4611686018427387903 ≤ d) (d2 : d ≤ 4611686018427387903) (w : World) :
    Calls Tryz.prog 35 #[.agg #[.int .i64 a, .int .i64 b], .agg #[.int .i64 c, .int .i64 d]] w fun e w' => e = .returned (.tuple #[.agg #[.int .i64 X, .int .i64 Y], .bool true]) ∧ Below w.heap.size w w' := by
  have h := eadd_any a b c d (by omega) (by omega) (by omega) (by omega) (by omega) (by omega) (by omega) (by omega) w
  have hb := both_mk (x := a + c) (y := b + d) (fits_mk ⟨by omega, by omega⟩) (fits_mk ⟨by omega, by omega⟩)
  rw [hb, keptA_mk hb, keptB_mk hb, hX, hY] at h
  exact h
theorem esub_small (a b c d X Y : Int) (hX : a - c = X) (hY : b - d = Y) (a1 : -4611686018427387903 ≤ a) (a2 : a ≤ 4611686018427387903) (b1 : -4611686018427387903 ≤ b) (b2 : b ≤ 4611686018427387903) (k1 : -4611686018427387903 ≤ c) (k2 : c ≤ 4611686018427387903) (d1 : -4611686018427387903 ≤ d) (d2 : d ≤ 4611686018427387903) (w : World) :
    Calls Tryz.prog 31 #[.agg #[.int .i64 a, .int .i64 b], .agg #[.int .i64 c, .int .i64 d]] w fun e w' => e = .returned (.tuple #[.agg #[.int .i64 X, .int .i64 Y], .bool true]) ∧ Below w.heap.size w w' := by
  have h := esub_any a b c d (by omega) (by omega) (by omega) (by omega) (by omega) (by omega) (by omega) (by omega) w
  have hb := both_mk (x := a - c) (y := b - d) (fits_mk ⟨by omega, by omega⟩) (fits_mk ⟨by omega, by omega⟩)
  rw [hb, keptA_mk hb, keptB_mk hb, hX, hY] at h
  exact h
theorem econj_small (a b X Y : Int) (hX : a + b = X) (hY : -b = Y) (a1 : -4611686018427387903 ≤ a) (a2 : a ≤ 4611686018427387903) (b1 : -4611686018427387903 ≤ b) (b2 : b ≤ 4611686018427387903) (w : World) :
    Calls Tryz.prog 118 #[.agg #[.int .i64 a, .int .i64 b]] w fun e w' => e = .returned (.tuple #[.agg #[.int .i64 X, .int .i64 Y], .bool true]) ∧ Below w.heap.size w w' := by
  have h := econj_any a b (by omega) (by omega) (by omega) (by omega) w
  have hb := both_mk (x := a + b) (y := -b) (fits_mk ⟨by omega, by omega⟩) (fits_mk ⟨by omega, by omega⟩)
  rw [hb, keptA_mk hb, keptB_mk hb, hX, hY] at h
  exact h
/-- A part by truncation. -/
def tam (n : Int) : Int := n.tmod 16384
theorem tam_box (n : Int) : -16384 < tam n ∧ tam n < 16384 := tmod_box n 16384 (by omega)
end Go.Proofs.YteipijgkiobmaabGreatDoor
