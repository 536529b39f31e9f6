/-
  Plain facts on the lattices of thirteen sizes beneath the points of the world: where a centre lies, that it is nearest to itself, that what is nearest moves by whole steps, that a point lies in the closed hexagon of what is nearest to it; for any numbers, within the bounds written.
-/
import Derived.Test.YtlipbdiijjfheaaGreatDoorBetMath
namespace Go.Proofs.YtlipbdiijjfheaaGreatDoor
open Go.RowKit

/-- The Norm of Beta's K-th power: seven, K times with itself. -/
def sev (K : Nat) : Int := normE (bet K).1 (bet K).2
/-- The first part of its mirror, and the second. -/
def cjA (K : Nat) : Int := (bet K).1 + (bet K).2
def cjB (K : Nat) : Int := -(bet K).2
theorem sev_fin : ∀ i : Fin 13, (decide (sev i.val = 7 ^ i.val) && decide (1 ≤ sev i.val) && decide (sev i.val ≤ 13841287201)
    && decide (-262144 ≤ (bet i.val).1) && decide ((bet i.val).1 ≤ 262144) && decide (-262144 ≤ (bet i.val).2) && decide ((bet i.val).2 ≤ 262144) && decide (-262144 ≤ cjA i.val) && decide (cjA i.val ≤ 262144)
    && decide (-sev i.val ≤ (bet i.val).1) && decide ((bet i.val).1 ≤ sev i.val) && decide (-sev i.val ≤ (bet i.val).2) && decide ((bet i.val).2 ≤ sev i.val) && decide (-sev i.val ≤ cjA i.val) && decide (cjA i.val ≤ sev i.val)) = true := by decide +kernel
theorem sev_pow {K : Nat} (h : K ≤ 12) : sev K = 7 ^ K := by
  have := sev_fin ⟨K, by omega⟩
  simp only [Bool.and_eq_true, decide_eq_true_eq] at this
  exact this.1.1.1.1.1.1.1.1.1.1.1.1.1.1
theorem sev_box {K : Nat} (h : K ≤ 12) : 1 ≤ sev K ∧ sev K ≤ 13841287201 := by
  have := sev_fin ⟨K, by omega⟩
  simp only [Bool.and_eq_true, decide_eq_true_eq] at this
  omega
theorem bet_small {K : Nat} (h : K ≤ 12) : -262144 ≤ (bet K).1 ∧ (bet K).1 ≤ 262144 ∧ -262144 ≤ (bet K).2 ∧ (bet K).2 ≤ 262144 ∧ -262144 ≤ cjA K ∧ cjA K ≤ 262144 ∧ -262144 ≤ cjB K ∧ cjB K ≤ 262144 := by
  have := sev_fin ⟨K, by omega⟩
  simp only [Bool.and_eq_true, decide_eq_true_eq] at this
  unfold cjB
  omega
theorem bet_sev {K : Nat} (h : K ≤ 12) : -sev K ≤ (bet K).1 ∧ (bet K).1 ≤ sev K ∧ -sev K ≤ (bet K).2 ∧ (bet K).2 ≤ sev K ∧ -sev K ≤ cjA K ∧ cjA K ≤ sev K ∧ -sev K ≤ cjB K ∧ cjB K ≤ sev K := by
  have := sev_fin ⟨K, by omega⟩
  simp only [Bool.and_eq_true, decide_eq_true_eq] at this
  unfold cjB
  omega

/-- A product of two numbers within bounds. -/
theorem mul_in {a b A B : Int} (ha : -A ≤ a ∧ a ≤ A) (hb : -B ≤ b ∧ b ≤ B) : -(A * B) ≤ a * b ∧ a * b ≤ A * B := by
  have h : (a * b).natAbs ≤ A.natAbs * B.natAbs := by rw [Int.natAbs_mul]; exact Nat.mul_le_mul (by omega) (by omega)
  have g2 : (A.natAbs * B.natAbs : Nat) = (A * B).natAbs := by rw [Int.natAbs_mul]
  have g3 : 0 ≤ A * B := Int.mul_nonneg (by omega) (by omega)
  omega

/-- The point (x, y), times its whole, times the mirror of Beta's power. -/
def nuA (K : Nat) (x y : Int) : Int := (45 * x - 26 * y) * cjA K - 52 * y * cjB K
def nuB (K : Nat) (x y : Int) : Int := (45 * x - 26 * y) * cjB K + 52 * y * cjA K + 52 * y * cjB K
/-- What it is divided by. -/
def dvK (K : Nat) : Int := 2340 * sev K
theorem dvK_box {K : Nat} (h : K ≤ 12) : 1 ≤ dvK K ∧ dvK K ≤ 1125899906842624 := by
  have := sev_box h
  unfold dvK
  omega
/-- A point of the world. -/
def InW (x y : Int) : Prop := 0 ≤ x ∧ x < 1073741824 ∧ 0 ≤ y ∧ y < 1073741824
theorem nu_sev {K : Nat} {x y : Int} (h : K ≤ 12) (hw : InW x y) : -(104152956928 * sev K) ≤ nuA K x y ∧ nuA K x y ≤ 104152956928 * sev K ∧ -(104152956928 * sev K) ≤ nuB K x y ∧ nuB K x y ≤ 104152956928 * sev K := by
  obtain ⟨b1, b2, b3, b4, b5, b6, b7, b8⟩ := bet_sev h
  obtain ⟨x1, x2, y1, y2⟩ := hw
  have h1 := mul_in (a := 45 * x - 26 * y) (A := 48318382080) (b := cjA K) (B := sev K) (by omega) (by omega)
  have h2 := mul_in (a := 45 * x - 26 * y) (A := 48318382080) (b := cjB K) (B := sev K) (by omega) (by omega)
  have h3 := mul_in (a := 52 * y) (A := 55834574848) (b := cjB K) (B := sev K) (by omega) (by omega)
  have h4 := mul_in (a := 52 * y) (A := 55834574848) (b := (bet K).1) (B := sev K) (by omega) (by omega)
  have e : 52 * y * (bet K).1 = 52 * y * cjA K + 52 * y * cjB K := by unfold cjA cjB; grind
  rw [e] at h4
  unfold nuA nuB
  omega
theorem nu_box {K : Nat} {x y : Int} (h : K ≤ 12) (hw : InW x y) : -72057594037927936 ≤ nuA K x y ∧ nuA K x y ≤ 72057594037927936 ∧ -72057594037927936 ≤ nuB K x y ∧ nuB K x y ≤ 72057594037927936 := by
  obtain ⟨b1, b2, b3, b4, b5, b6, b7, b8⟩ := bet_small h
  obtain ⟨x1, x2, y1, y2⟩ := hw
  have h1 := mul_in (a := 45 * x - 26 * y) (A := 48318382080) (b := cjA K) (B := 262144) (by omega) (by omega)
  have h2 := mul_in (a := 45 * x - 26 * y) (A := 48318382080) (b := cjB K) (B := 262144) (by omega) (by omega)
  have h3 := mul_in (a := 52 * y) (A := 55834574848) (b := cjB K) (B := 262144) (by omega) (by omega)
  have h4 := mul_in (a := 52 * y) (A := 55834574848) (b := (bet K).1) (B := 262144) (by omega) (by omega)
  have e : 52 * y * (bet K).1 = 52 * y * cjA K + 52 * y * cjB K := by unfold cjA cjB; grind
  rw [e] at h4
  unfold nuA nuB
  omega

/-- The parts of what is nearest to a point are tame. -/
theorem near_tame {K : Nat} {x y a b : Int} (h : K ≤ 12) (hw : InW x y) (hn : Nearest (dvK K) (nuA K x y) (nuB K x y) a b) : -67108864 ≤ a ∧ a ≤ 67108864 ∧ -67108864 ≤ b ∧ b ≤ 67108864 := by
  have hs := (sev_box h).1
  have hu := nu_sev h hw
  have h1 := hn.1
  unfold HexAt Hex dvK at h1
  generalize nuA K x y = u at *
  generalize nuB K x y = v at *
  generalize sev K = S at *
  have ea : a * (2340 * S) = 2340 * (a * S) := by grind
  have eb : b * (2340 * S) = 2340 * (b * S) := by grind
  rw [ea, eb] at h1
  have big : ∀ j : Int, -(67108865 * S) < j * S → j * S < 67108865 * S → -67108864 ≤ j ∧ j ≤ 67108864 := by
    intro j h1 h2
    constructor
    · by_cases hj : -67108864 ≤ j
      · exact hj
      · exfalso
        have := Int.mul_le_mul_of_nonneg_right (show j ≤ -67108865 by omega) (show 0 ≤ S by omega)
        omega
    · by_cases hj : j ≤ 67108864
      · exact hj
      · exfalso
        have := Int.mul_le_mul_of_nonneg_right (show 67108865 ≤ j by omega) (show 0 ≤ S by omega)
        omega
  have ba := big a (by omega) (by omega)
  have bb := big b (by omega) (by omega)
  omega

/-- The centre of (a, b), in the finest lattice. -/
def ctA (K : Nat) (a b : Int) : Int := (bet K).1 * a - (bet K).2 * b
def ctB (K : Nat) (a b : Int) : Int := (bet K).1 * b + (bet K).2 * a + (bet K).2 * b
theorem ct_box {K : Nat} {a b : Int} (h : K ≤ 12) (ha : -4294967296 ≤ a ∧ a ≤ 4294967296) (hb : -4294967296 ≤ b ∧ b ≤ 4294967296) : -3377699720527872 ≤ ctA K a b ∧ ctA K a b ≤ 3377699720527872 ∧ -3377699720527872 ≤ ctB K a b ∧ ctB K a b ≤ 3377699720527872 := by
  obtain ⟨b1, b2, b3, b4, -, -, -, -⟩ := bet_small h
  have h1 := mul_in (a := (bet K).1) (A := 262144) (b := a) (B := 4294967296) (by omega) ha
  have h2 := mul_in (a := (bet K).1) (A := 262144) (b := b) (B := 4294967296) (by omega) hb
  have h3 := mul_in (a := (bet K).2) (A := 262144) (b := a) (B := 4294967296) (by omega) ha
  have h4 := mul_in (a := (bet K).2) (A := 262144) (b := b) (B := 4294967296) (by omega) hb
  unfold ctA ctB
  omega
/-- Where it lies. -/
def poX (K : Nat) (a b : Int) : Int := 52 * ctA K a b + 26 * ctB K a b
def poY (K : Nat) (a b : Int) : Int := 45 * ctB K a b

theorem nearest_moved {d u v a b i k : Int} (h : Nearest d u v a b) : Nearest d (u + d * i) (v + d * k) (a + i) (b + k) := by
  have key : ∀ x y, HexAt d (u + d * i) (v + d * k) x y ↔ HexAt d u v (x - i) (y - k) := fun x y => by
    unfold HexAt
    have e1 : u + d * i - x * d = u - (x - i) * d := by rw [Int.sub_mul, Int.mul_comm d i]; omega
    have e2 : v + d * k - y * d = v - (y - k) * d := by rw [Int.sub_mul, Int.mul_comm d k]; omega
    rw [e1, e2]
  constructor
  · rw [key, show a + i - i = a by omega, show b + k - k = b by omega]; exact h.1
  · intro x y hxy
    rw [key] at hxy
    have := h.2 _ _ hxy
    omega
theorem near_hex_zero {d x y : Int} (hd : 0 < d) (h : Hex d (-(x * d)) (-(y * d))) : x = 0 ∧ y = 0 := by
  unfold Hex at h
  have bd : ∀ j : Int, -d ≤ j * d → j * d ≤ d → -1 ≤ j ∧ j ≤ 1 := by
    intro j h1 h2
    constructor
    · by_cases hj : -1 ≤ j
      · exact hj
      · exfalso
        have := Int.mul_le_mul_of_nonneg_right (show j ≤ -2 by omega) (show 0 ≤ d by omega)
        omega
    · by_cases hj : j ≤ 1
      · exact hj
      · exfalso
        have := Int.mul_le_mul_of_nonneg_right (show 2 ≤ j by omega) (show 0 ≤ d by omega)
        omega
  have bx := bd x (by omega) (by omega)
  have by' := bd y (by omega) (by omega)
  have ci : x = -1 ∨ x = 0 ∨ x = 1 := by omega
  have ck : y = -1 ∨ y = 0 ∨ y = 1 := by omega
  rcases ci with rfl | rfl | rfl <;> rcases ck with rfl | rfl | rfl <;> omega
theorem nearest_whole {d i k : Int} (hd : 0 < d) : Nearest d (d * i) (d * k) i k := by
  have h0 : Nearest d 0 0 0 0 := by
    constructor
    · unfold HexAt Hex; simp; omega
    · intro x y h
      unfold HexAt at h
      rw [Int.zero_sub, Int.zero_sub] at h
      have hh := near_hex_zero hd h
      omega
  have := nearest_moved (i := i) (k := k) h0
  rwa [Int.zero_add, Int.zero_add, Int.zero_add, Int.zero_add] at this

/-- There is one that is nearest. -/
theorem nearest_some {d : Int} (hd : 1 ≤ d) (u v : Int) : ∃ a b, Nearest d u v a b := by
  have r1 := Int.emod_nonneg u (b := d) (by omega)
  have r2 := Int.emod_lt_of_pos u (b := d) (by omega)
  have r3 := Int.emod_nonneg v (b := d) (by omega)
  have r4 := Int.emod_lt_of_pos v (b := d) (by omega)
  have hp := pick_near r1 r2 r3 r4
  exact ⟨_, _, nearest_of (Int.mul_ediv_add_emod u d).symm (Int.mul_ediv_add_emod v d).symm hp.1 hp.2⟩
/-- A centre is nearest to itself. -/
theorem near_self {K : Nat} (h : K ≤ 12) (a b : Int) : Nearest (dvK K) (nuA K (poX K a b) (poY K a b)) (nuB K (poX K a b) (poY K a b)) a b := by
  have e1 : nuA K (poX K a b) (poY K a b) = dvK K * a := by unfold nuA dvK sev normE poX poY ctA ctB cjA cjB; grind
  have e2 : nuB K (poX K a b) (poY K a b) = dvK K * b := by unfold nuB dvK sev normE poX poY ctA ctB cjA cjB; grind
  rw [e1, e2]
  exact nearest_whole (by have := dvK_box h; omega)
/-- Of the finest lattice: what is nearest moves by whole steps. -/
theorem near_step {x y a b i k : Int} (h : Nearest (dvK 0) (nuA 0 x y) (nuB 0 x y) a b) : Nearest (dvK 0) (nuA 0 (x + 52 * i + 26 * k) (y + 45 * k)) (nuB 0 (x + 52 * i + 26 * k) (y + 45 * k)) (a + i) (b + k) := by
  have c1 : cjA 0 = 1 := rfl
  have c2 : cjB 0 = 0 := rfl
  have cd : dvK 0 = 2340 := rfl
  have e1 : nuA 0 (x + 52 * i + 26 * k) (y + 45 * k) = nuA 0 x y + dvK 0 * i := by unfold nuA; rw [c1, c2, cd]; omega
  have e2 : nuB 0 (x + 52 * i + 26 * k) (y + 45 * k) = nuB 0 x y + dvK 0 * k := by unfold nuB; rw [c1, c2, cd]; omega
  rw [e1, e2]
  exact nearest_moved h
/-- Each size's centres are some of the next finer one's. -/
theorem ct_down (K : Nat) (a b : Int) : ctA (K + 1) a b = ctA K (mulA a b 2 1) (mulB a b 2 1) ∧ ctB (K + 1) a b = ctB K (mulA a b 2 1) (mulB a b 2 1) := by
  have e : bet (K + 1) = (mulA (bet K).1 (bet K).2 2 1, mulB (bet K).1 (bet K).2 2 1) := rfl
  unfold ctA ctB
  rw [e]
  unfold mulA mulB
  constructor <;> grind
theorem sev_down (K : Nat) : sev (K + 1) = 7 * sev K := by
  have e : bet (K + 1) = (mulA (bet K).1 (bet K).2 2 1, mulB (bet K).1 (bet K).2 2 1) := rfl
  unfold sev
  rw [e]
  unfold mulA mulB normE
  grind

/-- The way to the i-th corner, in thirds of a step. -/
def wayA : Nat → Int
  | 0 => 1 | 1 => -1 | 2 => -2 | 3 => -1 | 4 => 1 | _ => 2
def wayB : Nat → Int
  | 0 => 1 | 1 => 2 | 2 => 1 | 3 => -1 | 4 => -2 | _ => -1
/-- The corner to which a way leads, in thirds. -/
def coX (K : Nat) (a b p q : Int) : Int := poX K (3 * a + p) (3 * b + q)
def coY (K : Nat) (a b p q : Int) : Int := poY K (3 * a + p) (3 * b + q)
theorem co_mirror (K : Nat) (a b p q : Int) : coX K a b p q + coX K a b (-p) (-q) = 6 * poX K a b ∧ coY K a b p q + coY K a b (-p) (-q) = 6 * poY K a b := by
  unfold coX coY poX poY ctA ctB
  constructor <;> grind

/-- On which side of the way from corner to corner a point lies: how far inside. -/
theorem side_eq (K : Nat) (a b x y p q r s : Int) :
    (coX K a b r s - coX K a b p q) * (3 * y - coY K a b p q) - (coY K a b r s - coY K a b p q) * (3 * x - coX K a b p q)
      = (r - p) * (3 * (nuB K x y - b * dvK K) - dvK K * q) - (s - q) * (3 * (nuA K x y - a * dvK K) - dvK K * p) := by
  unfold coX coY poX poY ctA ctB nuA nuB dvK sev normE cjA cjB
  grind
/-- Whether (x, y) is a point of the world. -/
def inWB (x y : Int) : Bool := decide (0 ≤ x ∧ x < 1073741824 ∧ 0 ≤ y ∧ y < 1073741824)
theorem inWB_yes {x y : Int} (h : inWB x y = true) : InW x y := by unfold InW; exact of_decide_eq_true h
theorem inWB_no {x y : Int} (h : inWB x y = false) : ¬ InW x y := by unfold InW; exact of_decide_eq_false h
theorem inWB_mk {x y : Int} (h : InW x y) : inWB x y = true := by unfold InW at h; exact decide_eq_true h
theorem inWB_not {x y : Int} (h : ¬ InW x y) : inWB x y = false := by unfold InW at h; exact decide_eq_false h
/-- The ending that tells a number of the lattice of which P holds. -/
def TellsP (P : Int → Int → Prop) (e : Ending) : Prop := ∃ a b : Int, e = .returned (.tuple #[.agg #[.int .i64 a, .int .i64 b], .bool true]) ∧ P a b
end Go.Proofs.YtlipbdiijjfheaaGreatDoor
