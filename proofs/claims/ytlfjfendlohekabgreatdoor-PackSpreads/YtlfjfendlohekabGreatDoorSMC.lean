/-
  Plain facts on how many cells some words are: what Size tells, of any list and any size.
-/
import Derived.Test.YtlfjfendlohekabGreatDoorM2C
import Derived.Test.YtlfjfendlohekabGreatDoorProg
import Derived.Handy
import Derived.Deep.QuietTactic
import Derived.WalkSpells
import Derived.WalkLawsBesides
import Derived.BigQuiet
import Derived.PlainAid
import Derived.Deep.RegionWith
import Derived.Laws.BitsAllLaws
namespace Go.Proofs.YtlfjfendlohekabGreatDoor
open Go.RowKit

theorem cntR_snoc (r : Nat) (w : Int) : ∀ L : List Int, cntR r (L ++ [w]) = cntR r L + 7 ^ (r - (wR w).toNat)
  | [] => by show 7 ^ _ + 0 = 0 + 7 ^ _; omega
  | x :: L => by show 7 ^ _ + cntR r (L ++ [w]) = 7 ^ _ + cntR r L + 7 ^ _; rw [cntR_snoc r w L]; omega

theorem seven_pos (k : Nat) : (1 : Int) ≤ 7 ^ k := by have : (0 : Int) < 7 ^ k := Int.pow_pos (by omega); omega

theorem cntR_append (r : Nat) : ∀ L M : List Int, cntR r (L ++ M) = cntR r L + cntR r M
  | [], M => by show _ = 0 + _; simp
  | x :: L, M => by show 7 ^ _ + cntR r (L ++ M) = 7 ^ _ + cntR r L + cntR r M; rw [cntR_append r L M]; omega

theorem cntR_pos (r : Nat) : ∀ L : List Int, (L.length : Int) ≤ cntR r L
  | [] => by simp [cntR]
  | x :: L => by have := cntR_pos r L; have := seven_pos (r - (wR x).toNat); show _ ≤ 7 ^ _ + cntR r L; simp; omega

theorem cntR_take (r : Nat) (L : List Int) (i : Nat) : cntR r (L.take i) ≤ cntR r L := by
  have h := cntR_append r (L.take i) (L.drop i)
  rw [List.take_append_drop] at h
  have := cntR_pos r (L.drop i)
  omega

theorem cntR_next (r : Nat) {L : List Int} {i : Nat} (h : i < L.length) : cntR r (L.take (i + 1)) = cntR r (L.take i) + 7 ^ (r - (wR L[i]).toNat) := by
  rw [List.take_succ_eq_append_getElem h, cntR_snoc]

/-- What Size tells: z, with the error t. -/
def SizeT (L : List Int) (r z t : Int) : Prop :=
  ((¬ ∀ x ∈ L, Whole x) ∧ z = 0 ∧ t = 5) ∨
  ((∀ x ∈ L, Whole x) ∧ (∃ x ∈ L, r < wR x) ∧ z = 0 ∧ t = 8) ∨
  ((∀ x ∈ L, Whole x) ∧ (∀ x ∈ L, wR x ≤ r) ∧ ¬ (0 ≤ r ∧ r ≤ 12) ∧ z = 0 ∧ t = 1) ∨
  ∃ n : Nat, r = (n : Int) ∧ n ≤ 12 ∧ WithinR n L ∧ ((1099511627776 < cntR n L ∧ z = 0 ∧ t = 7) ∨ (cntR n L ≤ 1099511627776 ∧ z = cntR n L ∧ t = 0))

theorem SizeT.one {L : List Int} {r z t z' t' : Int} (h : SizeT L r z t) (h' : SizeT L r z' t') : z = z' ∧ t = t' := by
  have no : ∀ {n : Nat}, WithinR n L → ∀ x ∈ L, Whole x := fun h x hx => (h x hx).1
  rcases h with ⟨a, rfl, rfl⟩ | ⟨a, ⟨x, hx, b⟩, rfl, rfl⟩ | ⟨a, b, c, rfl, rfl⟩ | ⟨n, rfl, a, b, c⟩
  · rcases h' with ⟨_, rfl, rfl⟩ | ⟨a', _⟩ | ⟨a', _⟩ | ⟨n, _, _, b', _⟩
    · exact ⟨rfl, rfl⟩
    · exact absurd a' a
    · exact absurd a' a
    · exact absurd (no b') a
  · rcases h' with ⟨a', _⟩ | ⟨_, _, rfl, rfl⟩ | ⟨_, b', _⟩ | ⟨n, e, _, b', _⟩
    · exact absurd a a'
    · exact ⟨rfl, rfl⟩
    · have := b' x hx; omega
    · have := (b' x hx).2; omega
  · rcases h' with ⟨a', _⟩ | ⟨_, ⟨x, hx, b'⟩, _⟩ | ⟨_, _, _, rfl, rfl⟩ | ⟨n, e, e2, _⟩
    · exact absurd a a'
    · have := b x hx; omega
    · exact ⟨rfl, rfl⟩
    · exact absurd ⟨by omega, by omega⟩ c
  · rcases h' with ⟨a', _⟩ | ⟨_, ⟨x, hx, b'⟩, _⟩ | ⟨_, _, c', _⟩ | ⟨n', e, _, _, c'⟩
    · exact absurd (no b) a'
    · have := (b x hx).2; omega
    · exact absurd ⟨by omega, by omega⟩ c'
    · obtain rfl : n = n' := by omega
      rcases c with ⟨c1, rfl, rfl⟩ | ⟨c1, rfl, rfl⟩ <;> rcases c' with ⟨c2, rfl, rfl⟩ | ⟨c2, rfl, rfl⟩
      · exact ⟨rfl, rfl⟩
      · omega
      · omega
      · exact ⟨rfl, rfl⟩

theorem seven_box {k : Nat} (h : k ≤ 12) : (1 : Int) ≤ 7 ^ k ∧ (7 : Int) ^ k ≤ 13841287201 := by
  have := seven_pos k
  have h2 : (7 : Nat) ^ k ≤ 7 ^ 12 := Nat.pow_le_pow_right (by omega) h
  have e : ((7 ^ k : Nat) : Int) = (7 : Int) ^ k := by push_cast; rfl
  have : (7 : Nat) ^ 12 = 13841287201 := by decide
  omega

end Go.Proofs.YtlfjfendlohekabGreatDoor
