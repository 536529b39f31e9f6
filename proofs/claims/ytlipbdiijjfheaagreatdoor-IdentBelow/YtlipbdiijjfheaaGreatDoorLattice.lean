/-
  Plain facts on the lattice of triangles: a remainder lies in the hexagon about nought just if nothing of the lattice, times the divisor, is nearer to it; which centre is the nearest one, the least of several, is one alone; for any numbers and any divisor above nought.
-/
import Derived.Test.YtlipbdiijjfheaaGreatDoorPlain
namespace Go.Proofs.YtlipbdiijjfheaaGreatDoor
open Go.RowKit

/-- The Norm of a number of the lattice. -/
def normE (s t : Int) : Int := s * s + s * t + t * t
/-- The hexagon about nought: as near to nought as to any Unit times d. -/
def Hex (d s t : Int) : Prop := (-d ≤ 2 * s + t ∧ 2 * s + t ≤ d) ∧ (-d ≤ s + 2 * t ∧ s + 2 * t ≤ d) ∧ (-d ≤ s - t ∧ s - t ≤ d)

theorem mul_up {m p d : Int} (hm : 0 ≤ m) (h : p ≤ d) : m * p ≤ m * d := Int.mul_le_mul_of_nonneg_left h hm
theorem sq_ge (m : Int) : m ≤ m * m ∧ -m ≤ m * m := by
  by_cases h : m ≤ 0
  · have h1 : 0 ≤ m * m := by have := Int.mul_nonneg (show 0 ≤ -m by omega) (show 0 ≤ -m by omega); rw [Int.neg_mul_neg] at this; exact this
    by_cases h0 : m = 0
    · subst h0; omega
    · have h2 := mul_up (m := -m) (p := 1) (d := -m) (by omega) (by omega)
      rw [Int.neg_mul_neg, Int.mul_one] at h2
      omega
  · have h2 := mul_up (m := m) (p := 1) (d := m) (by omega) (by omega)
    rw [Int.mul_one] at h2
    omega

/-- One sign. -/
theorem step_same {m n p q d : Int} (hd : 0 ≤ d) (hm : 0 ≤ m) (hn : 0 ≤ n) (hp : p ≤ d) (hq : q ≤ d) : m * p + n * q ≤ normE m n * d := by
  have h1 := mul_up hm hp
  have h2 := mul_up hn hq
  have h3 : (m + n) * d ≤ normE m n * d := by
    refine Int.mul_le_mul_of_nonneg_right ?_ hd
    have := (sq_ge m).1
    have := (sq_ge n).1
    have := Int.mul_nonneg hm hn
    unfold normE
    omega
  rw [Int.add_mul] at h3
  omega
/-- Unlike signs. -/
theorem step_unlike {m n p q d : Int} (hd : 0 ≤ d) (hm : 0 ≤ m) (hn : 0 ≤ n) (hp : p ≤ d) (hq : -d ≤ q) (hpq : p - q ≤ d) : m * p - n * q ≤ normE m (-n) * d := by
  have hN : normE m (-n) = m * m - m * n + n * n := by unfold normE; rw [Int.mul_neg, Int.neg_mul_neg]; omega
  rw [hN]
  by_cases h : n ≤ m
  · have h1 := mul_up (m := m - n) (by omega) hp
    have h2 := mul_up hn hpq
    have e : m * p - n * q = (m - n) * p + n * (p - q) := by rw [Int.sub_mul, Int.mul_sub]; omega
    have e2 : (m - n) * d + n * d = m * d := by rw [← Int.add_mul]; congr 1; omega
    have h3 : m ≤ m * m - m * n + n * n := by
      by_cases h0 : m = 0
      · subst h0
        obtain rfl : n = 0 := by omega
        omega
      · have h4 := mul_up (m := m - n) (p := 1) (d := m) (by omega) (by omega)
        rw [Int.mul_one, Int.sub_mul, Int.mul_comm n m] at h4
        have := (sq_ge n).1
        omega
    have h5 := Int.mul_le_mul_of_nonneg_right h3 hd
    omega
  · have h1 := mul_up hm hpq
    have h2 := mul_up (m := n - m) (p := -q) (d := d) (by omega) (by omega)
    have e : m * p - n * q = m * (p - q) + (n - m) * (-q) := by rw [Int.mul_sub, Int.sub_mul, Int.mul_neg, Int.mul_neg]; omega
    have e2 : m * d + (n - m) * d = n * d := by rw [← Int.add_mul]; congr 1; omega
    have h3 : n ≤ m * m - m * n + n * n := by
      have h4 := mul_up (m := n - m) (p := 1) (d := n) (by omega) (by omega)
      rw [Int.mul_one, Int.sub_mul] at h4
      have := (sq_ge m).1
      omega
    have h5 := Int.mul_le_mul_of_nonneg_right h3 hd
    omega
theorem step_all {m n p q d : Int} (hd : 0 ≤ d) (hp : -d ≤ p ∧ p ≤ d) (hq : -d ≤ q ∧ q ≤ d) (hpq : -d ≤ p - q ∧ p - q ≤ d) : m * p + n * q ≤ normE m n * d := by
  by_cases hm : 0 ≤ m
  · by_cases hn : 0 ≤ n
    · exact step_same hd hm hn hp.2 hq.2
    · have := step_unlike (m := m) (n := -n) hd hm (by omega) hp.2 hq.1 hpq.2
      rw [Int.neg_mul, Int.neg_neg] at this
      omega
  · by_cases hn : 0 ≤ n
    · have := step_unlike (m := -m) (n := n) (p := -p) (q := -q) hd (by omega) hn (by omega) (by omega) (by omega)
      rw [Int.neg_mul_neg, Int.mul_neg] at this
      have e : normE (-m) (-n) = normE m n := by unfold normE; rw [Int.neg_mul_neg, Int.neg_mul_neg, Int.neg_mul_neg]
      rw [e] at this
      omega
    · have := step_same (m := -m) (n := -n) (p := -p) (q := -q) hd (by omega) (by omega) (by omega) (by omega)
      rw [Int.neg_mul_neg, Int.neg_mul_neg] at this
      have e : normE (-m) (-n) = normE m n := by unfold normE; rw [Int.neg_mul_neg, Int.neg_mul_neg, Int.neg_mul_neg]
      rw [e] at this
      exact this

theorem norm_moved (s t m n d : Int) : normE (s - m * d) (t - n * d) = normE s t - d * (m * (2 * s + t) + n * (s + 2 * t)) + d * (normE m n * d) := by
  unfold normE
  simp only [Int.sub_mul, Int.mul_sub, Int.add_mul, Int.mul_add]
  have e1 : m * d * s = s * (m * d) := Int.mul_comm _ _
  have e2 : m * d * t = t * (m * d) := Int.mul_comm _ _
  have e3 : n * d * t = t * (n * d) := Int.mul_comm _ _
  have e4 : d * (m * (2 * s)) = 2 * (s * (m * d)) := by rw [show m * (2 * s) = 2 * (m * s) by rw [Int.mul_left_comm], Int.mul_left_comm d 2, show d * (m * s) = s * (m * d) by rw [Int.mul_comm m s, Int.mul_left_comm d s m, Int.mul_comm d m]]
  have e5 : d * (m * t) = t * (m * d) := by rw [Int.mul_comm m t, Int.mul_left_comm d t m, Int.mul_comm d m]
  have e6 : d * (n * s) = s * (n * d) := by rw [Int.mul_comm n s, Int.mul_left_comm d s n, Int.mul_comm d n]
  have e7 : d * (n * (2 * t)) = 2 * (t * (n * d)) := by rw [show n * (2 * t) = 2 * (n * t) by rw [Int.mul_left_comm], Int.mul_left_comm d 2, show d * (n * t) = t * (n * d) by rw [Int.mul_comm n t, Int.mul_left_comm d t n, Int.mul_comm d n]]
  have f1 : d * (m * m * d) = m * d * (m * d) := by rw [Int.mul_assoc m m d, Int.mul_left_comm d m, Int.mul_assoc m d]
  have f2 : d * (m * n * d) = m * d * (n * d) := by rw [Int.mul_assoc m n d, Int.mul_left_comm d m, Int.mul_assoc m d]
  have f3 : d * (n * n * d) = n * d * (n * d) := by rw [Int.mul_assoc n n d, Int.mul_left_comm d n, Int.mul_assoc n d]
  omega

theorem norm_pos (a b : Int) : 0 ≤ normE a b := by
  have h1 : 4 * normE a b = (2 * a + b) * (2 * a + b) + 3 * (b * b) := by
    unfold normE
    simp only [Int.mul_add, Int.add_mul]
    have e1 : 2 * a * (2 * a) = 4 * (a * a) := by rw [Int.mul_assoc, Int.mul_left_comm a 2 a]; omega
    have e2 : 2 * a * b = 2 * (a * b) := Int.mul_assoc _ _ _
    have e3 : b * (2 * a) = 2 * (a * b) := by rw [Int.mul_left_comm, Int.mul_comm b a]
    omega
  have h2 := sq_ge (2 * a + b)
  have h3 := sq_ge b
  omega
theorem norm_prod (a b c d : Int) : normE (a * c - b * d) (a * d + b * c + b * d) = normE a b * normE c d := by
  unfold normE; grind
/-- In the hexagon nothing is nearer. -/
theorem hex_near {d s t : Int} (hd : 0 ≤ d) (h : Hex d s t) (m n : Int) : normE s t ≤ normE (s - m * d) (t - n * d) := by
  obtain ⟨h1, h2, h3⟩ := h
  rw [norm_moved]
  have := step_all (m := m) (n := n) (p := 2 * s + t) (q := s + 2 * t) hd h1 h2 (by omega)
  have := mul_up hd this
  omega

/-- Where nothing is nearer, there is the hexagon. -/
theorem near_hex {d s t : Int} (hd : 0 < d) (h : ∀ m n : Int, normE s t ≤ normE (s - m * d) (t - n * d)) : Hex d s t := by
  have key : ∀ m n : Int, normE m n = 1 → m * (2 * s + t) + n * (s + 2 * t) ≤ d := by
    intro m n e
    have := h m n
    rw [norm_moved, e, Int.one_mul] at this
    exact Int.le_of_mul_le_mul_left (a := d) (by omega) hd
  have k1 := key 1 0 (by decide)
  have k2 := key (-1) 0 (by decide)
  have k3 := key 0 1 (by decide)
  have k4 := key 0 (-1) (by decide)
  have k5 := key 1 (-1) (by decide)
  have k6 := key (-1) 1 (by decide)
  unfold Hex
  omega

/-- The centre (a, b) holds (u, v). -/
def HexAt (d u v a b : Int) : Prop := Hex d (u - a * d) (v - b * d)
/-- The least centre that holds (u, v). -/
def Nearest (d u v a b : Int) : Prop := HexAt d u v a b ∧ ∀ a' b', HexAt d u v a' b' → a < a' ∨ a = a' ∧ b ≤ b'
theorem nearest_one {d u v a b a' b' : Int} (h : Nearest d u v a b) (h' : Nearest d u v a' b') : a = a' ∧ b = b' := by
  have h1 := h.2 a' b' h'.1
  have h2 := h'.2 a b h.1
  omega

/-- A remainder from nought to below d is held by one of four centres, and by no other. -/
theorem hex_window {d s t i k : Int} (s0 : 0 ≤ s) (s1 : s < d) (t0 : 0 ≤ t) (t1 : t < d) (h : Hex d (s - i * d) (t - k * d)) : 0 ≤ i ∧ i ≤ 1 ∧ 0 ≤ k ∧ k ≤ 1 := by
  unfold Hex at h
  have hx : -d ≤ s - i * d ∧ s - i * d ≤ d := by omega
  have hy : -d ≤ t - k * d ∧ t - k * d ≤ d := by omega
  have bd : ∀ j : Int, -d ≤ j * d → j * d < 2 * d → -1 ≤ j ∧ j ≤ 1 := by
    intro j h1 h2
    constructor
    · by_cases hj : -1 ≤ j
      · exact hj
      · exfalso
        have := Int.mul_le_mul_of_nonneg_right (show j ≤ -2 by omega) (show 0 ≤ d by omega)
        omega
    · by_cases hj : j ≤ 1
      · exact hj
      · exfalso
        have := Int.mul_le_mul_of_nonneg_right (show 2 ≤ j by omega) (show 0 ≤ d by omega)
        omega
  have bi := bd i (by omega) (by omega)
  have bk := bd k (by omega) (by omega)
  have ci : i = -1 ∨ i = 0 ∨ i = 1 := by omega
  have ck : k = -1 ∨ k = 0 ∨ k = 1 := by omega
  rcases ci with rfl | rfl | rfl <;> rcases ck with rfl | rfl | rfl <;> omega
theorem hex_some {d s t : Int} (s0 : 0 ≤ s) (s1 : s < d) (t0 : 0 ≤ t) (t1 : t < d) : Hex d s t ∨ Hex d s (t - d) ∨ Hex d (s - d) t ∨ Hex d (s - d) (t - d) := by
  unfold Hex
  omega

/-- The ending that tells the nearest centre. -/
def TellsR (d u v : Int) (e : Ending) : Prop := ∃ a b : Int, e = .returned (.tuple #[.agg #[.int .i64 a, .int .i64 b], .bool true]) ∧ Nearest d u v a b
/-- The remainder, moved by i and k. -/
def HexW (d s t i k : Int) : Prop := Hex d (s - i * d) (t - k * d)
theorem at_moved {d u v a b s t : Int} (h1 : u = d * a + s) (h2 : v = d * b + t) (x y : Int) : HexAt d u v x y ↔ HexW d s t (x - a) (y - b) := by
  unfold HexAt HexW
  rw [Int.sub_mul, Int.sub_mul, h1, h2, Int.mul_comm d a, Int.mul_comm d b, show a * d + s - x * d = s - (x * d - a * d) by omega, show b * d + t - y * d = t - (y * d - b * d) by omega]
theorem nearest_of {d u v a b s t i k : Int} (h1 : u = d * a + s) (h2 : v = d * b + t) (h : HexW d s t i k) (hl : ∀ i' k', HexW d s t i' k' → i < i' ∨ i = i' ∧ k ≤ k') : Nearest d u v (a + i) (b + k) := by
  constructor
  · rw [at_moved h1 h2, show a + i - a = i by omega, show b + k - b = k by omega]; exact h
  · intro x y hxy
    rw [at_moved h1 h2] at hxy
    have := hl _ _ hxy
    omega
theorem hexW_some {d s t : Int} (s0 : 0 ≤ s) (s1 : s < d) (t0 : 0 ≤ t) (t1 : t < d) : ∃ i k, HexW d s t i k := by
  rcases hex_some s0 s1 t0 t1 with h | h | h | h
  · exact ⟨0, 0, by unfold HexW; rw [Int.zero_mul, Int.sub_zero, Int.sub_zero]; exact h⟩
  · exact ⟨0, 1, by unfold HexW; rw [Int.zero_mul, Int.sub_zero, Int.one_mul]; exact h⟩
  · exact ⟨1, 0, by unfold HexW; rw [Int.zero_mul, Int.sub_zero, Int.one_mul]; exact h⟩
  · exact ⟨1, 1, by unfold HexW; rw [Int.one_mul]; exact h⟩
theorem mul_box {i d : Int} (i1 : -1 ≤ i) (i2 : i ≤ 2) (d1 : 1 ≤ d) (d2 : d ≤ 1125899906842624) : -1125899906842624 ≤ i * d ∧ i * d ≤ 2251799813685248 := by
  have c : i = -1 ∨ i = 0 ∨ i = 1 ∨ i = 2 := by omega
  rcases c with rfl | rfl | rfl | rfl <;> omega
theorem div_box {u d : Int} (u1 : -1152921504606846976 ≤ u) (u2 : u ≤ 1152921504606846976) (d1 : 1 ≤ d) : -1152921504606846976 ≤ u / d ∧ u / d ≤ 1152921504606846976 := by
  have h := Int.mul_ediv_add_emod u d
  have h1 := Int.emod_nonneg u (b := d) (by omega)
  have h2 := Int.emod_lt_of_pos u (b := d) (by omega)
  constructor
  · by_cases hq : -1152921504606846976 ≤ u / d
    · exact hq
    · exfalso
      have h3 := Int.mul_le_mul_of_nonneg_left (show u / d + 1 ≤ -1152921504606846976 by omega) (show 0 ≤ d by omega)
      rw [Int.mul_add, Int.mul_one] at h3
      omega
  · by_cases hq : u / d ≤ 1152921504606846976
    · exact hq
    · exfalso
      have h3 := Int.mul_le_mul_of_nonneg_left (show 1152921504606846977 ≤ u / d by omega) (show 0 ≤ d by omega)
      omega

/-- The parts of the k-th Unit. -/
def unitA (j : Int) : Int := if j = 0 then 1 else if j = 1 then 0 else if j = 2 then -1 else if j = 3 then -1 else if j = 4 then 0 else 1
def unitB (j : Int) : Int := if j = 0 then 0 else if j = 1 then 1 else if j = 2 then 1 else if j = 3 then 0 else if j = 4 then -1 else -1

/-- By how much the centre (0, 1), (1, 0) or (1, 1) is farther than nought, in parts of d. -/
def farN (s t d : Int) : Nat → Int
  | 0 => 0
  | 1 => d - s - 2 * t
  | 2 => d - 2 * s - t
  | _ => 3 * (d - s - t)
/-- The first least of the first k of them, and how far it is. -/
def pick (s t d : Int) : Nat → Nat × Int
  | 0 => (0, 0)
  | k + 1 => if farN s t d k < (pick s t d k).2 then (k, farN s t d k) else pick s t d k
theorem pick_lt (s t d : Int) : ∀ k, (pick s t d k).1 ≤ k
  | 0 => Nat.le_refl _
  | k + 1 => by
    have := pick_lt s t d k
    unfold pick
    split <;> simp <;> omega
theorem pick_near {s t d : Int} (s0 : 0 ≤ s) (s1 : s < d) (t0 : 0 ≤ t) (t1 : t < d) :
    HexW d s t ((((pick s t d 4).1 : Nat) : Int) / 2) ((((pick s t d 4).1 : Nat) : Int) % 2) ∧ ∀ i' k', HexW d s t i' k' → (((pick s t d 4).1 : Nat) : Int) / 2 < i' ∨ (((pick s t d 4).1 : Nat) : Int) / 2 = i' ∧ (((pick s t d 4).1 : Nat) : Int) % 2 ≤ k' := by
  have win : ∀ i' k', HexW d s t i' k' → 0 ≤ i' ∧ i' ≤ 1 ∧ 0 ≤ k' ∧ k' ≤ 1 := fun i' k' h => hex_window s0 s1 t0 t1 h
  have h4 : (((pick s t d 4).1 : Nat) : Int) = 0 ∧ 0 ≤ d - s - 2 * t ∧ 0 ≤ d - 2 * s - t ∧ 0 ≤ 3 * (d - s - t)
      ∨ (((pick s t d 4).1 : Nat) : Int) = 1 ∧ d - s - 2 * t < 0 ∧ d - s - 2 * t ≤ d - 2 * s - t ∧ d - s - 2 * t ≤ 3 * (d - s - t)
      ∨ (((pick s t d 4).1 : Nat) : Int) = 2 ∧ d - 2 * s - t < 0 ∧ d - 2 * s - t < d - s - 2 * t ∧ d - 2 * s - t ≤ 3 * (d - s - t)
      ∨ (((pick s t d 4).1 : Nat) : Int) = 3 ∧ 3 * (d - s - t) < 0 ∧ 3 * (d - s - t) < d - s - 2 * t ∧ 3 * (d - s - t) < d - 2 * s - t := by
    simp only [pick, farN]
    split <;> split <;> split <;> split <;> simp_all <;> omega
  generalize (((pick s t d 4).1 : Nat) : Int) = p at h4 ⊢
  have hex : ∀ i k, HexW d s t i k ↔ Hex d (s - i * d) (t - k * d) := fun _ _ => Iff.rfl
  rcases h4 with ⟨rfl, h1, h2, h3⟩ | ⟨rfl, h1, h2, h3⟩ | ⟨rfl, h1, h2, h3⟩ | ⟨rfl, h1, h2, h3⟩
  all_goals
    refine ⟨?_, fun i' k' h => ?_⟩
    · unfold HexW Hex; simp; omega
    · have hw := win i' k' h
      have ci : i' = 0 ∨ i' = 1 := by omega
      have ck : k' = 0 ∨ k' = 1 := by omega
      unfold HexW Hex at h
      rcases ci with rfl | rfl <;> rcases ck with rfl | rfl <;> simp at h ⊢ <;> omega
end Go.Proofs.YtlipbdiijjfheaaGreatDoor
