/-
  Plain facts on the lattices of thirteen sizes beneath the points of the world: where a centre lies, that it is nearest to itself, that what is nearest moves by whole steps, that a point lies in the closed hexagon of what is nearest to it; for any numbers, within the bounds written.
-/
import Derived.Test.YtmfpkphhjfgjbaaPD
import Derived.Test.YtmfpkphhjfgjbaaProg
import Derived.Handy
import Derived.Deep.QuietTactic
import Derived.WalkSpells
import Derived.WalkLawsBesides
import Derived.BigQuiet
import Derived.PlainAid
import Derived.Deep.RegionWith
import Derived.Laws.BitsAllLaws
namespace Go.Proofs.Ytmfpkphhjfgjbaa
open Go.RowKit

/-- The Norm of Beta's K-th power: seven, K times with itself. -/
def sev (K : Nat) : Int := normE (bet K).1 (bet K).2

/-- The first part of its mirror, and the second. -/
def cjA (K : Nat) : Int := (bet K).1 + (bet K).2

def cjB (K : Nat) : Int := -(bet K).2

theorem sev_fin : ∀ i : Fin 13, (decide (sev i.val = 7 ^ i.val) && decide (1 ≤ sev i.val) && decide (sev i.val ≤ 13841287201)
    && decide (-262144 ≤ (bet i.val).1) && decide ((bet i.val).1 ≤ 262144) && decide (-262144 ≤ (bet i.val).2) && decide ((bet i.val).2 ≤ 262144) && decide (-262144 ≤ cjA i.val) && decide (cjA i.val ≤ 262144)
    && decide (-sev i.val ≤ (bet i.val).1) && decide ((bet i.val).1 ≤ sev i.val) && decide (-sev i.val ≤ (bet i.val).2) && decide ((bet i.val).2 ≤ sev i.val) && decide (-sev i.val ≤ cjA i.val) && decide (cjA i.val ≤ sev i.val)) = true := by decide +kernel

theorem sev_pow {K : Nat} (h : K ≤ 12) : sev K = 7 ^ K := by
  have := sev_fin ⟨K, by omega⟩
  simp only [Bool.and_eq_true, decide_eq_true_eq] at this
  exact this.1.1.1.1.1.1.1.1.1.1.1.1.1.1

theorem sev_box {K : Nat} (h : K ≤ 12) : 1 ≤ sev K ∧ sev K ≤ 13841287201 := by
  have := sev_fin ⟨K, by omega⟩
  simp only [Bool.and_eq_true, decide_eq_true_eq] at this
  omega

/-- A product of two numbers within bounds. -/
theorem mul_in {a b A B : Int} (ha : -A ≤ a ∧ a ≤ A) (hb : -B ≤ b ∧ b ≤ B) : -(A * B) ≤ a * b ∧ a * b ≤ A * B := by
  have h : (a * b).natAbs ≤ A.natAbs * B.natAbs := by rw [Int.natAbs_mul]; exact Nat.mul_le_mul (by omega) (by omega)
  have g2 : (A.natAbs * B.natAbs : Nat) = (A * B).natAbs := by rw [Int.natAbs_mul]
  have g3 : 0 ≤ A * B := Int.mul_nonneg (by omega) (by omega)
  omega

/-- The point (x, y), times its whole, times the mirror of Beta's power. -/
def nuA (K : Nat) (x y : Int) : Int := (45 * x - 26 * y) * cjA K - 52 * y * cjB K

def nuB (K : Nat) (x y : Int) : Int := (45 * x - 26 * y) * cjB K + 52 * y * cjA K + 52 * y * cjB K

/-- What it is divided by. -/
def dvK (K : Nat) : Int := 2340 * sev K

theorem dvK_box {K : Nat} (h : K ≤ 12) : 1 ≤ dvK K ∧ dvK K ≤ 1125899906842624 := by
  have := sev_box h
  unfold dvK
  omega

/-- A point of the world. -/
def InW (x y : Int) : Prop := 0 ≤ x ∧ x < 1073741824 ∧ 0 ≤ y ∧ y < 1073741824

/-- There is one that is nearest. -/
theorem nearest_some {d : Int} (hd : 1 ≤ d) (u v : Int) : ∃ a b, Nearest d u v a b := by
  have r1 := Int.emod_nonneg u (b := d) (by omega)
  have r2 := Int.emod_lt_of_pos u (b := d) (by omega)
  have r3 := Int.emod_nonneg v (b := d) (by omega)
  have r4 := Int.emod_lt_of_pos v (b := d) (by omega)
  have hp := pick_near r1 r2 r3 r4
  exact ⟨_, _, nearest_of (Int.mul_ediv_add_emod u d).symm (Int.mul_ediv_add_emod v d).symm hp.1 hp.2⟩

/-- Whether (x, y) is a point of the world. -/
def inWB (x y : Int) : Bool := decide (0 ≤ x ∧ x < 1073741824 ∧ 0 ≤ y ∧ y < 1073741824)

theorem inWB_yes {x y : Int} (h : inWB x y = true) : InW x y := by unfold InW; exact of_decide_eq_true h

theorem inWB_no {x y : Int} (h : inWB x y = false) : ¬ InW x y := by unfold InW; exact of_decide_eq_false h

theorem inWB_mk {x y : Int} (h : InW x y) : inWB x y = true := by unfold InW at h; exact decide_eq_true h

theorem inWB_not {x y : Int} (h : ¬ InW x y) : inWB x y = false := by unfold InW at h; exact decide_eq_false h

end Go.Proofs.Ytmfpkphhjfgjbaa
