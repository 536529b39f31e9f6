/-
  Plain facts on cells: which child a number is, its parent's number, the numbers above it; that they are one to one; their bounds; for any numbers, within the bounds written.
-/
import Derived.Test.YtlipbdiijjfheaaGreatDoorPlaneMath
namespace Go.Proofs.YtlipbdiijjfheaaGreatDoor
open Go.RowKit

/-- The digit that what Beta leaves tells. -/
def digI (m : Int) : Int := if m = 0 then 0 else if m = 1 then 1 else if m = 2 then 5 else if m = 3 then 6 else if m = 4 then 3 else if m = 5 then 2 else 4
/-- What a child's number has beside Beta times its parent's. -/
def ptA (d : Int) : Int := if d = 0 then 0 else if d = 1 then 1 else if d = 2 then 0 else if d = 3 then -1 else if d = 4 then -1 else if d = 5 then 0 else 1
def ptB (d : Int) : Int := if d = 0 then 0 else if d = 1 then 0 else if d = 2 then 1 else if d = 3 then 1 else if d = 4 then 0 else if d = 5 then -1 else -1
/-- Which child a number is. -/
def dig (a b : Int) : Int := digI ((a - 2 * b) % 7)
/-- The parent's number. -/
def parA (a b : Int) : Int := (3 * (a - ptA (dig a b)) + (b - ptB (dig a b))) / 7
def parB (a b : Int) : Int := (2 * (b - ptB (dig a b)) - (a - ptA (dig a b))) / 7
/-- The child's number. -/
def chA (d P Q : Int) : Int := 2 * P - Q + ptA d
def chB (d P Q : Int) : Int := P + 3 * Q + ptB d

theorem dig_box (a b : Int) : 0 ≤ dig a b ∧ dig a b ≤ 6 := by
  unfold dig digI
  have h0 := Int.emod_nonneg (a - 2 * b) (b := 7) (by omega)
  have h1 := Int.emod_lt_of_pos (a - 2 * b) (b := 7) (by omega)
  repeat' split
  all_goals omega
theorem seven_cases {d : Int} (h0 : 0 ≤ d) (h1 : d ≤ 6) : d = 0 ∨ d = 1 ∨ d = 2 ∨ d = 3 ∨ d = 4 ∨ d = 5 ∨ d = 6 := by omega
/-- What is left by seven, and the digit: seven ways. -/
theorem dig_see (a b : Int) : (dig a b = 0 ∧ (a - 2 * b) % 7 = 0 ∧ ptA (dig a b) = 0 ∧ ptB (dig a b) = 0) ∨ (dig a b = 1 ∧ (a - 2 * b) % 7 = 1 ∧ ptA (dig a b) = 1 ∧ ptB (dig a b) = 0) ∨ (dig a b = 5 ∧ (a - 2 * b) % 7 = 2 ∧ ptA (dig a b) = 0 ∧ ptB (dig a b) = -1)
    ∨ (dig a b = 6 ∧ (a - 2 * b) % 7 = 3 ∧ ptA (dig a b) = 1 ∧ ptB (dig a b) = -1) ∨ (dig a b = 3 ∧ (a - 2 * b) % 7 = 4 ∧ ptA (dig a b) = -1 ∧ ptB (dig a b) = 1) ∨ (dig a b = 2 ∧ (a - 2 * b) % 7 = 5 ∧ ptA (dig a b) = 0 ∧ ptB (dig a b) = 1) ∨ (dig a b = 4 ∧ (a - 2 * b) % 7 = 6 ∧ ptA (dig a b) = -1 ∧ ptB (dig a b) = 0) := by
  have h0 := Int.emod_nonneg (a - 2 * b) (b := 7) (by omega)
  have h1 := Int.emod_lt_of_pos (a - 2 * b) (b := 7) (by omega)
  unfold dig
  generalize (a - 2 * b) % 7 = m at *
  have : m = 0 ∨ m = 1 ∨ m = 2 ∨ m = 3 ∨ m = 4 ∨ m = 5 ∨ m = 6 := by omega
  rcases this with rfl | rfl | rfl | rfl | rfl | rfl | rfl <;> decide
/-- A number is Beta times its parent's and its part. -/
theorem par_spec (a b : Int) : a = 2 * parA a b - parB a b + ptA (dig a b) ∧ b = parA a b + 3 * parB a b + ptB (dig a b) := by
  unfold parA parB
  rcases dig_see a b with h | h | h | h | h | h | h <;> (obtain ⟨-, hm, hA, hB⟩ := h; rw [hA, hB]; omega)
theorem pt_box (d : Int) : -1 ≤ ptA d ∧ ptA d ≤ 1 ∧ -1 ≤ ptB d ∧ ptB d ≤ 1 := by
  have hA : ptA d = 0 ∨ ptA d = 1 ∨ ptA d = -1 := by
    unfold ptA; repeat' split
    all_goals omega
  have hB : ptB d = 0 ∨ ptB d = 1 ∨ ptB d = -1 := by
    unfold ptB; repeat' split
    all_goals omega
  omega
/-- In one way. -/
theorem par_one {d P Q : Int} (h0 : 0 ≤ d) (h1 : d ≤ 6) : dig (chA d P Q) (chB d P Q) = d ∧ parA (chA d P Q) (chB d P Q) = P ∧ parB (chA d P Q) (chB d P Q) = Q := by
  have hd : dig (chA d P Q) (chB d P Q) = d := by
    rcases seven_cases h0 h1 with rfl | rfl | rfl | rfl | rfl | rfl | rfl
    · have e : (chA 0 P Q - 2 * chB 0 P Q) % 7 = 0 := by show (2 * P - Q + 0 - 2 * (P + 3 * Q + 0)) % 7 = 0; omega
      unfold dig; rw [e]; rfl
    · have e : (chA 1 P Q - 2 * chB 1 P Q) % 7 = 1 := by show (2 * P - Q + 1 - 2 * (P + 3 * Q + 0)) % 7 = 1; omega
      unfold dig; rw [e]; rfl
    · have e : (chA 2 P Q - 2 * chB 2 P Q) % 7 = 5 := by show (2 * P - Q + 0 - 2 * (P + 3 * Q + 1)) % 7 = 5; omega
      unfold dig; rw [e]; rfl
    · have e : (chA 3 P Q - 2 * chB 3 P Q) % 7 = 4 := by show (2 * P - Q + -1 - 2 * (P + 3 * Q + 1)) % 7 = 4; omega
      unfold dig; rw [e]; rfl
    · have e : (chA 4 P Q - 2 * chB 4 P Q) % 7 = 6 := by show (2 * P - Q + -1 - 2 * (P + 3 * Q + 0)) % 7 = 6; omega
      unfold dig; rw [e]; rfl
    · have e : (chA 5 P Q - 2 * chB 5 P Q) % 7 = 2 := by show (2 * P - Q + 0 - 2 * (P + 3 * Q + -1)) % 7 = 2; omega
      unfold dig; rw [e]; rfl
    · have e : (chA 6 P Q - 2 * chB 6 P Q) % 7 = 3 := by show (2 * P - Q + 1 - 2 * (P + 3 * Q + -1)) % 7 = 3; omega
      unfold dig; rw [e]; rfl
  refine ⟨hd, ?_, ?_⟩
  · unfold parA; rw [hd]; unfold chA chB; omega
  · unfold parB; rw [hd]; unfold chA chB; omega
theorem par_back (a b : Int) : chA (dig a b) (parA a b) (parB a b) = a ∧ chB (dig a b) (parA a b) (parB a b) = b := by
  have := par_spec a b
  unfold chA chB
  omega
theorem par_box {a b B : Int} (ha : -B ≤ a ∧ a ≤ B) (hb : -B ≤ b ∧ b ≤ B) (_ : 1 ≤ B) : -B ≤ parA a b ∧ parA a b ≤ B ∧ -B ≤ parB a b ∧ parB a b ≤ B := by
  have h := par_spec a b
  have p := pt_box (dig a b)
  omega

/-- The number n sizes up. -/
def ups : Nat → Int → Int → Int × Int
  | 0, a, b => (a, b)
  | n + 1, a, b => ups n (parA a b) (parB a b)
theorem ups_zero (a b : Int) : ups 0 a b = (a, b) := rfl
theorem ups_step (n : Nat) (a b : Int) : ups (n + 1) a b = ups n (parA a b) (parB a b) := rfl
theorem ups_add : ∀ (m n : Nat) (a b : Int), ups (m + n) a b = ups n (ups m a b).1 (ups m a b).2
  | 0, n, a, b => by rw [Nat.zero_add]; rfl
  | m + 1, n, a, b => by rw [Nat.add_right_comm]; exact ups_add m n (parA a b) (parB a b)
theorem ups_last (n : Nat) (a b : Int) : ups (n + 1) a b = (parA (ups n a b).1 (ups n a b).2, parB (ups n a b).1 (ups n a b).2) := by
  rw [ups_add n 1 a b]; rfl
theorem ups_box {B : Int} (hB : 1 ≤ B) : ∀ (n : Nat) {a b : Int}, -B ≤ a ∧ a ≤ B → -B ≤ b ∧ b ≤ B → (-B ≤ (ups n a b).1 ∧ (ups n a b).1 ≤ B) ∧ (-B ≤ (ups n a b).2 ∧ (ups n a b).2 ≤ B)
  | 0, _, _, ha, hb => ⟨ha, hb⟩
  | n + 1, a, b, ha, hb => by
    have h := par_box ha hb hB
    exact ups_box hB n ⟨h.1, h.2.1⟩ ⟨h.2.2.1, h.2.2.2⟩
theorem ups_child {d P Q : Int} (n : Nat) (h0 : 0 ≤ d) (h1 : d ≤ 6) : ups (n + 1) (chA d P Q) (chB d P Q) = ups n P Q := by
  have h := par_one (P := P) (Q := Q) h0 h1
  rw [ups_step, h.2.1, h.2.2]

/-- A part of a cell's number, and of a base's. -/
def In30c (n : Int) : Prop := -1073741824 ≤ n ∧ n ≤ 1073741824
def InBase (n : Int) : Prop := -512 ≤ n ∧ n ≤ 511
/-- Which cells may be. -/
def Ok4 (r a b : Int) : Prop := 0 ≤ r ∧ r ≤ 12 ∧ In30c a ∧ In30c b ∧ InBase (ups r.toNat a b).1 ∧ InBase (ups r.toNat a b).2
def ok4B (r a b : Int) : Bool := decide (0 ≤ r ∧ r ≤ 12 ∧ (-1073741824 ≤ a ∧ a ≤ 1073741824) ∧ (-1073741824 ≤ b ∧ b ≤ 1073741824) ∧ (-512 ≤ (ups r.toNat a b).1 ∧ (ups r.toNat a b).1 ≤ 511) ∧ (-512 ≤ (ups r.toNat a b).2 ∧ (ups r.toNat a b).2 ≤ 511))
theorem ok4_mk {r a b : Int} (h : Ok4 r a b) : ok4B r a b = true := by unfold Ok4 In30c InBase at h; exact decide_eq_true h
theorem ok4_of {r a b : Int} (h : ok4B r a b = true) : Ok4 r a b := by unfold Ok4 In30c InBase; exact of_decide_eq_true h
theorem ok4_no {r a b : Int} (h : ¬ Ok4 r a b) : ok4B r a b = false := by unfold Ok4 In30c InBase at h; exact decide_eq_false h
theorem ok4_not {r a b : Int} (h : ok4B r a b = false) : ¬ Ok4 r a b := by unfold Ok4 In30c InBase; exact of_decide_eq_false h

theorem norm_in {x y B : Int} (h : -B ≤ x ∧ x ≤ B ∧ -B ≤ y ∧ y ≤ B) : normE x y ≤ 3 * (B * B) := by
  have h1 := (mul_in (a := x) (b := x) (A := B) (B := B) (by omega) (by omega)).2
  have h2 := (mul_in (a := x) (b := y) (A := B) (B := B) (by omega) (by omega)).2
  have h3 := (mul_in (a := y) (b := y) (A := B) (B := B) (by omega) (by omega)).2
  unfold normE
  omega
theorem norm_part (d : Int) : normE (ptA d) (ptB d) ≤ 1 := by
  by_cases h : 0 ≤ d ∧ d ≤ 6
  · rcases seven_cases h.1 h.2 with rfl | rfl | rfl | rfl | rfl | rfl | rfl <;> decide
  · have hA : ptA d = 1 := by unfold ptA; repeat' (rw [if_neg (by omega)])
    have hB : ptB d = -1 := by unfold ptB; repeat' (rw [if_neg (by omega)])
    rw [hA, hB]; decide
/-- A sum's Norm, weighed. -/
theorem norm_weigh (a b p q : Int) : 64 * normE (a - p) (b - q) ≤ 65 * normE a b + 4160 * normE p q := by
  have h := norm_pos (a + 64 * p) (b + 64 * q)
  have e : normE (a + 64 * p) (b + 64 * q) + 64 * normE (a - p) (b - q) = 65 * normE a b + 4160 * normE p q := by unfold normE; grind
  omega
theorem norm_weigh' (a b p q : Int) : 64 * normE (a + p) (b + q) ≤ 65 * normE a b + 4160 * normE p q := by
  have h := norm_weigh a b (-p) (-q)
  have e : normE (-p) (-q) = normE p q := by unfold normE; grind
  rw [e, show a - -p = a + p by omega, show b - -q = b + q by omega] at h
  exact h
theorem norm_beta (P Q : Int) : normE (2 * P - Q) (P + 3 * Q) = 7 * normE P Q := by unfold normE; grind
theorem norm_up (a b : Int) : 448 * normE (parA a b) (parB a b) ≤ 65 * normE a b + 4160 := by
  have h := norm_weigh a b (ptA (dig a b)) (ptB (dig a b))
  have hp := norm_part (dig a b)
  have hs := par_spec a b
  have e := norm_beta (parA a b) (parB a b)
  rw [show 2 * parA a b - parB a b = a - ptA (dig a b) by omega, show parA a b + 3 * parB a b = b - ptB (dig a b) by omega] at e
  omega
theorem norm_down (a b : Int) : 64 * normE a b ≤ 455 * normE (parA a b) (parB a b) + 4160 := by
  have hs := par_spec a b
  have h := norm_weigh' (2 * parA a b - parB a b) (parA a b + 3 * parB a b) (ptA (dig a b)) (ptB (dig a b))
  rw [← hs.1, ← hs.2, norm_beta] at h
  have hp := norm_part (dig a b)
  omega

/-- Bounds on Norms, size by size: of points' cells, and of all that may be. -/
def upN : Nat → Int
  | 0 => 195000
  | r + 1 => (448 * upN r - 4160) / 65
def dnN : Nat → Int
  | 0 => 786432
  | r + 1 => (455 * dnN r + 4160) / 64
theorem upN_fin : ∀ i : Fin 13, decide (62700 * 7 ^ i.val + 200 ≤ upN i.val) = true := by decide +kernel
theorem dnN_fin : ∀ i : Fin 13, decide (dnN i.val ≤ 100000000000000000) = true := by decide +kernel
theorem ups_norm : ∀ (r : Nat) {a b : Int}, normE a b ≤ upN r → normE (ups r a b).1 (ups r a b).2 ≤ 195000
  | 0, _, _, h => h
  | r + 1, a, b, h => by
    have h1 := norm_up a b
    have h2 : upN (r + 1) = (448 * upN r - 4160) / 65 := rfl
    exact ups_norm r (by omega)
theorem sq_part {a b N B : Int} (h : normE a b ≤ N) (hB : 0 ≤ B) (hN : 4 * N < 3 * ((B + 1) * (B + 1))) : (-B ≤ a ∧ a ≤ B) ∧ (-B ≤ b ∧ b ≤ B) := by
  have e1 : 4 * normE a b = (2 * b + a) * (2 * b + a) + 3 * (a * a) := by unfold normE; grind
  have e2 : 4 * normE a b = (2 * a + b) * (2 * a + b) + 3 * (b * b) := by unfold normE; grind
  have s1 : 0 ≤ (2 * b + a) * (2 * b + a) := by have := sq_ge (2 * b + a); omega
  have s2 : 0 ≤ (2 * a + b) * (2 * a + b) := by have := sq_ge (2 * a + b); omega
  have key : ∀ x : Int, x * x < (B + 1) * (B + 1) → -B ≤ x ∧ x ≤ B := by
    intro x hx
    have h : (x * x).natAbs = x.natAbs * x.natAbs := Int.natAbs_mul x x
    have k : ((B + 1) * (B + 1)).natAbs = (B + 1).natAbs * (B + 1).natAbs := Int.natAbs_mul _ _
    have g : 0 ≤ x * x := by have := sq_ge x; omega
    have hlt : x.natAbs < (B + 1).natAbs := by
      apply Nat.lt_of_not_le
      intro hle
      have := Nat.mul_le_mul hle hle
      omega
    omega
  exact ⟨key a (by omega), key b (by omega)⟩
theorem base_box {a b : Int} (h : normE a b ≤ 195000) : InBase a ∧ InBase b := by
  have := sq_part (B := 510) h (by omega) (by omega)
  unfold InBase
  omega
theorem ups_norm_down : ∀ (r : Nat) {a b : Int}, normE (ups r a b).1 (ups r a b).2 ≤ 786432 → normE a b ≤ dnN r
  | 0, _, _, h => h
  | r + 1, a, b, h => by
    have h1 := ups_norm_down r (a := parA a b) (b := parB a b) h
    have h2 := norm_down a b
    have h3 : dnN (r + 1) = (455 * dnN r + 4160) / 64 := rfl
    omega
/-- Where the base may be, so may the parts. -/
theorem parts_box {r : Nat} {a b : Int} (hr : r ≤ 12) (h1 : InBase (ups r a b).1) (h2 : InBase (ups r a b).2) : (-400000000 ≤ a ∧ a ≤ 400000000) ∧ (-400000000 ≤ b ∧ b ≤ 400000000) := by
  unfold InBase at h1 h2
  have hN := norm_in (x := (ups r a b).1) (y := (ups r a b).2) (B := 512) ⟨by omega, by omega, by omega, by omega⟩
  have h := ups_norm_down r (a := a) (b := b) (by omega)
  have hd := of_decide_eq_true (dnN_fin ⟨r, by omega⟩)
  have hd' : dnN r ≤ 100000000000000000 := hd
  exact sq_part (N := dnN r) h (by omega) (by omega)
theorem ok4_part {r a b : Int} (h : Ok4 r a b) : (-400000000 ≤ a ∧ a ≤ 400000000) ∧ (-400000000 ≤ b ∧ b ≤ 400000000) := parts_box (r := r.toNat) (by have := h.1; have := h.2.1; omega) h.2.2.2.2.1 h.2.2.2.2.2
theorem ok4_of_base {r : Nat} {a b : Int} (hr : r ≤ 12) (h1 : InBase (ups r a b).1) (h2 : InBase (ups r a b).2) : Ok4 r a b := by
  have h := parts_box hr h1 h2
  exact ⟨by omega, by omega, by unfold In30c; omega, by unfold In30c; omega, h1, h2⟩
/-- A child may be, and so may a parent. -/
theorem ok4_child {r P Q d : Int} (h : Ok4 r P Q) (hr : r < 12) (h0 : 0 ≤ d) (h1 : d ≤ 6) : Ok4 (r + 1) (chA d P Q) (chB d P Q) := by
  have hn : (r + 1).toNat = r.toNat + 1 := by have := h.1; omega
  have := ok4_of_base (r := r.toNat + 1) (a := chA d P Q) (b := chB d P Q) (by have := h.1; omega) (by rw [ups_child _ h0 h1]; exact h.2.2.2.2.1) (by rw [ups_child _ h0 h1]; exact h.2.2.2.2.2)
  rwa [show ((r.toNat + 1 : Nat) : Int) = r + 1 by have := h.1; omega] at this
theorem ok4_ups {r a b : Int} (h : Ok4 r a b) (n : Nat) (hn : n ≤ r) : Ok4 (r - n) (ups n a b).1 (ups n a b).2 := by
  have e : r.toNat = n + (r - n).toNat := by have := h.1; omega
  have h1 := h.2.2.2.2.1
  have h2 := h.2.2.2.2.2
  rw [e, ups_add] at h1 h2
  have := ok4_of_base (r := (r - n).toNat) (by have := h.2.1; omega) h1 h2
  rwa [show (((r - n).toNat : Nat) : Int) = r - n by omega] at this
theorem ok4_parent {r a b : Int} (h : Ok4 r a b) (hr : 0 < r) : Ok4 (r - 1) (parA a b) (parB a b) := ok4_ups h 1 (by omega)

/-- The nearest centre's Norm. -/
theorem near_norm {K : Nat} {x y a b : Int} (h : K ≤ 12) (hw : InW x y) (hn : Nearest (dvK K) (nuA K x y) (nuB K x y) a b) : normE a b ≤ upN (12 - K) := by
  have hs := (sev_box h).1
  have hp := sev_pow h
  have h1 := hn.1
  unfold HexAt Hex at h1
  have hd := (dvK_box h).1
  have hN : normE (nuA K x y) (nuB K x y) = normE (45 * x - 26 * y) (52 * y) * sev K := by unfold nuA nuB sev cjA cjB normE; grind
  have hX : normE (45 * x - 26 * y) (52 * y) = 2025 * (x * x) + 2028 * (y * y) := by unfold normE; grind
  obtain ⟨x1, x2, y1, y2⟩ := hw
  have mx := mul_in (a := x) (b := x) (A := 1073741824) (B := 1073741824) (by omega) (by omega)
  have my := mul_in (a := y) (b := y) (A := 1073741824) (B := 1073741824) (by omega) (by omega)
  have hM : normE (45 * x - 26 * y) (52 * y) ≤ 4053 * 1152921504606846976 := by rw [hX]; omega
  have hr := norm_in (x := nuA K x y - a * dvK K) (y := nuB K x y - b * dvK K) (B := dvK K) ⟨by omega, by omega, by omega, by omega⟩
  have hW := norm_weigh (nuA K x y) (nuB K x y) (nuA K x y - a * dvK K) (nuB K x y - b * dvK K)
  rw [show nuA K x y - (nuA K x y - a * dvK K) = a * dvK K by omega, show nuB K x y - (nuB K x y - b * dvK K) = b * dvK K by omega] at hW
  have hZ : normE (a * dvK K) (b * dvK K) = normE a b * (dvK K * dvK K) := by unfold normE; grind
  have hT := of_decide_eq_true (upN_fin ⟨12 - K, by omega⟩)
  have hT' : 62700 * 7 ^ (12 - K) + 200 ≤ upN (12 - K) := hT
  rw [hZ, hN] at hW
  generalize normE a b = X at *
  generalize normE (45 * x - 26 * y) (52 * y) = M at *
  have hle : X ≤ 62700 * 7 ^ (12 - K) + 200 := by
    have hc : K = 0 ∨ K = 1 ∨ K = 2 ∨ K = 3 ∨ K = 4 ∨ K = 5 ∨ K = 6 ∨ K = 7 ∨ K = 8 ∨ K = 9 ∨ K = 10 ∨ K = 11 ∨ K = 12 := by omega
    rcases hc with rfl | rfl | rfl | rfl | rfl | rfl | rfl | rfl | rfl | rfl | rfl | rfl | rfl <;> (unfold dvK at *; rw [hp] at *; clear hT hT' hN hX hZ hs hd h1 mx my; simp at *; omega)
  omega
theorem near_ok {K : Nat} {x y a b r : Int} (h : K ≤ 12) (hr : 12 - r = (K : Int)) (hw : InW x y) (hn : Nearest (dvK K) (nuA K x y) (nuB K x y) a b) : Ok4 r a b := by
  have hb := base_box (ups_norm (12 - K) (near_norm h hw hn))
  have := ok4_of_base (r := 12 - K) (by omega) hb.1 hb.2
  rwa [show ((12 - K : Nat) : Int) = r by omega] at this

/-- The mirror of one more Beta. -/
theorem nu_down (K : Nat) (x y : Int) : nuA (K + 1) x y = 3 * nuA K x y + nuB K x y ∧ nuB (K + 1) x y = 2 * nuB K x y - nuA K x y := by
  have e : bet (K + 1) = (mulA (bet K).1 (bet K).2 2 1, mulB (bet K).1 (bet K).2 2 1) := rfl
  unfold nuA nuB cjA cjB
  rw [e]
  unfold mulA mulB
  constructor <;> grind
theorem dv_down (K : Nat) : dvK (K + 1) = 7 * dvK K := by unfold dvK; rw [sev_down]; omega
/-- Of two sizes one behind the other: the parent is the nearest one, or one step away. -/
theorem near_steps {K : Nat} {x y a b p q : Int} (h : K < 12) (hn : Nearest (dvK K) (nuA K x y) (nuB K x y) a b) (hm : Nearest (dvK (K + 1)) (nuA (K + 1) x y) (nuB (K + 1) x y) p q) :
    (-1 ≤ parA a b - p ∧ parA a b - p ≤ 1) ∧ (-1 ≤ parB a b - q ∧ parB a b - q ≤ 1) ∧ (-1 ≤ parA a b - p + (parB a b - q) ∧ parA a b - p + (parB a b - q) ≤ 1) := by
  have h1 := hn.1
  have h2 := hm.1
  have hd := (dvK_box (K := K) (by omega)).1
  rw [(nu_down K x y).1, (nu_down K x y).2, dv_down] at h2
  have hs := par_spec a b
  unfold HexAt Hex at h1 h2
  generalize nuA K x y = u at *
  generalize nuB K x y = v at *
  generalize dvK K = d at *
  have small : ∀ j : Int, -(2 * d) < j * d → j * d < 2 * d → -1 ≤ j ∧ j ≤ 1 := by
    intro j h1 h2
    constructor
    · by_cases hj : -1 ≤ j
      · exact hj
      · exfalso
        have := Int.mul_le_mul_of_nonneg_right (show j ≤ -2 by omega) (show 0 ≤ d by omega)
        omega
    · by_cases hj : j ≤ 1
      · exact hj
      · exfalso
        have := Int.mul_le_mul_of_nonneg_right (show 2 ≤ j by omega) (show 0 ≤ d by omega)
        omega
  have eA : a * d = 2 * (parA a b * d) - parB a b * d + ptA (dig a b) * d := by
    have : a * d = (2 * parA a b - parB a b + ptA (dig a b)) * d := by rw [← hs.1]
    rw [this]; grind
  have eB : b * d = parA a b * d + 3 * (parB a b * d) + ptB (dig a b) * d := by
    have : b * d = (parA a b + 3 * parB a b + ptB (dig a b)) * d := by rw [← hs.2]
    rw [this]; grind
  have ep : p * (7 * d) = 7 * (p * d) := by grind
  have eq' : q * (7 * d) = 7 * (q * d) := by grind
  rw [ep, eq'] at h2
  rw [eA, eB] at h1
  have f1 : (parA a b - p) * d = parA a b * d - p * d := Int.sub_mul _ _ _
  have f2 : (parB a b - q) * d = parB a b * d - q * d := Int.sub_mul _ _ _
  have f3 : (parA a b - p + (parB a b - q)) * d = parA a b * d - p * d + (parB a b * d - q * d) := by grind
  have key : (-(2 * d) < parA a b * d - p * d ∧ parA a b * d - p * d < 2 * d) ∧ (-(2 * d) < parB a b * d - q * d ∧ parB a b * d - q * d < 2 * d) ∧ (-(2 * d) < parA a b * d - p * d + (parB a b * d - q * d) ∧ parA a b * d - p * d + (parB a b * d - q * d) < 2 * d) := by
    clear f1 f2 f3 eA eB ep eq' small hn hm hs
    rcases dig_see a b with h | h | h | h | h | h | h <;>
      (obtain ⟨-, -, hA, hB⟩ := h
       rw [hA, hB] at h1
       clear hA hB
       generalize parA a b * d = P at *
       generalize parB a b * d = Q at *
       generalize p * d = S at *
       generalize q * d = T at *
       simp only [Int.zero_mul, Int.one_mul, Int.neg_mul] at h1
       refine ⟨⟨?_, ?_⟩, ⟨?_, ?_⟩, ?_, ?_⟩ <;> omega)
  exact ⟨small _ (by rw [f1]; exact key.1.1) (by rw [f1]; exact key.1.2), small _ (by rw [f2]; exact key.2.1.1) (by rw [f2]; exact key.2.1.2), small _ (by rw [f3]; exact key.2.2.1) (by rw [f3]; exact key.2.2.2)⟩

/-- The document's own way to the parent: what is nearest to a seventh of the number times the mirror of Beta. -/
theorem par_nearest (a b : Int) : Nearest 7 (3 * a + b) (2 * b - a) (parA a b) (parB a b) := by
  have hs := par_spec a b
  generalize parA a b = P at *
  generalize parB a b = Q at *
  rcases dig_see a b with h | h | h | h | h | h | h <;>
    (obtain ⟨-, -, hA, hB⟩ := h
     rw [hA, hB] at hs
     clear hA hB
     refine ⟨?_, fun x y hxy => ?_⟩
     · unfold HexAt Hex; omega
     · unfold HexAt Hex at hxy; omega)
end Go.Proofs.YtlipbdiijjfheaaGreatDoor
