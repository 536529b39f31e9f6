/-
  Plain facts on rising rows of words that are gone through side by side, on rows without repeats, and on rows of rows.
-/
import Derived.Test.YtdklpgphmoaniaaGreatDoorMX
import Derived.Test.YtdklpgphmoaniaaGreatDoorProg
import Derived.Handy
import Derived.Deep.QuietTactic
import Derived.WalkSpells
import Derived.WalkLawsBesides
import Derived.BigQuiet
import Derived.PlainAid
import Derived.Deep.RegionWith
import Derived.Laws.BitsAllLaws
namespace Go.Proofs.YtdklpgphmoaniaaGreatDoor
open Go.RowKit

/-- How far two rising rows have been gone through: of A0 and B0 the words that are kept for the sides they are on are told in K; A1 and B1 are left. -/
def Took (k : Bool → Bool → Bool) (A B A1 B1 K : List Int) : Prop :=
  ∃ A0 B0 : List Int, A = A0 ++ A1 ∧ B = B0 ++ B1 ∧ Rising K ∧ (∀ x, x ∈ K ↔ k (decide (x ∈ A)) (decide (x ∈ B)) = true ∧ (x ∈ A0 ∨ x ∈ B0)) ∧
    (∀ x, x ∈ A0 ∨ x ∈ B0 → (∀ y ∈ A1, x < y) ∧ ∀ y ∈ B1, x < y) ∧ K.length ≤ A0.length + B0.length

theorem Took.start (k : Bool → Bool → Bool) (A B : List Int) : Took k A B A B [] :=
  ⟨[], [], rfl, rfl, List.Pairwise.nil, fun x => by simp, fun x h => by simp at h, by simp⟩

theorem Took.len {k : Bool → Bool → Bool} {A B A1 B1 K : List Int} (h : Took k A B A1 B1 K) : K.length + A1.length + B1.length ≤ A.length + B.length := by
  obtain ⟨A0, B0, rfl, rfl, -, -, -, h6⟩ := h
  simp only [List.length_append]
  omega

theorem Took.done {k : Bool → Bool → Bool} {A B K : List Int} (h : Took k A B [] [] K) : Rising K ∧ (∀ x, x ∈ K ↔ k (decide (x ∈ A)) (decide (x ∈ B)) = true ∧ (x ∈ A ∨ x ∈ B)) := by
  obtain ⟨A0, B0, e1, e2, h3, h4, -, -⟩ := h
  rw [List.append_nil] at e1 e2
  subst e1 e2
  exact ⟨h3, h4⟩

theorem rising_head {A0 A1 : List Int} {x : Int} (h : Rising (A0 ++ x :: A1)) : (∀ y ∈ A0, y < x) ∧ (∀ y ∈ A1, x < y) := by
  have h1 := List.pairwise_append.1 h
  exact ⟨fun y hy => h1.2.2 y hy x (List.mem_cons_self ..), (List.pairwise_cons.1 h1.2.1).1⟩

theorem rising_snoc {K : List Int} {w : Int} (h : Rising K) (hw : ∀ x ∈ K, x < w) : Rising (K ++ [w]) :=
  List.pairwise_append.2 ⟨h, List.pairwise_singleton _ _, fun x hx y hy => by rw [List.mem_singleton] at hy; subst hy; exact hw x hx⟩

theorem Took.step {k : Bool → Bool → Bool} {A B A1 B1 A2 B2 K : List Int} {w : Int} {p q : Bool} (h : Took k A B A1 B1 K) (hA : Rising A) (hB : Rising B) (hpq : p = true ∨ q = true)
    (hp : (p = true ∧ A1 = w :: A2) ∨ (p = false ∧ A2 = A1 ∧ ∀ y ∈ A1, w < y)) (hq : (q = true ∧ B1 = w :: B2) ∨ (q = false ∧ B2 = B1 ∧ ∀ y ∈ B1, w < y)) :
    Took k A B A2 B2 (if k p q = true then K ++ [w] else K) := by
  obtain ⟨A0, B0, e1, e2, h3, h4, h5, h6⟩ := h
  have hwA : decide (w ∈ A) = p := by
    rcases hp with ⟨rfl, e⟩ | ⟨rfl, rfl, hw⟩
    · exact decide_eq_true (by rw [e1, e]; simp)
    · refine decide_eq_false fun hm => ?_
      rw [e1, List.mem_append] at hm
      rcases hm with hm | hm
      · rcases hpq with h | h
        · cases h
        · rcases hq with ⟨_, e⟩ | ⟨rfl, _⟩
          · have := (h5 w (.inl hm)).2 w (by rw [e]; simp); omega
          · cases h
      · have := hw w hm; omega
  have hwB : decide (w ∈ B) = q := by
    rcases hq with ⟨rfl, e⟩ | ⟨rfl, rfl, hw⟩
    · exact decide_eq_true (by rw [e2, e]; simp)
    · refine decide_eq_false fun hm => ?_
      rw [e2, List.mem_append] at hm
      rcases hm with hm | hm
      · rcases hpq with h | h
        · rcases hp with ⟨_, e⟩ | ⟨rfl, _⟩
          · have := (h5 w (.inr hm)).1 w (by rw [e]; simp); omega
          · cases h
        · cases h
      · have := hw w hm; omega
  have hKw : ∀ x ∈ K, x < w := fun x hx => by
    have hx0 := ((h4 x).1 hx).2
    rcases hpq with h | h
    · rcases hp with ⟨_, e⟩ | ⟨rfl, _⟩
      · exact (h5 x hx0).1 w (by rw [e]; simp)
      · cases h
    · rcases hq with ⟨_, e⟩ | ⟨rfl, _⟩
      · exact (h5 x hx0).2 w (by rw [e]; simp)
      · cases h
  -- the new parts that have been gone through
  obtain ⟨A3, eA, mA, lA, gA⟩ : ∃ A3, A = A3 ++ A2 ∧ (∀ x, x ∈ A3 ↔ x ∈ A0 ∨ (p = true ∧ x = w)) ∧ A3.length = A0.length + (if p = true then 1 else 0) ∧ ∀ y ∈ A2, w < y := by
    rcases hp with ⟨rfl, e⟩ | ⟨rfl, rfl, hw⟩
    · refine ⟨A0 ++ [w], by rw [e1, e]; simp, fun x => by simp, by simp, ?_⟩
      rw [e1, e] at hA
      exact (rising_head hA).2
    · exact ⟨A0, e1, fun x => by simp, by simp, hw⟩
  obtain ⟨B3, eB, mB, lB, gB⟩ : ∃ B3, B = B3 ++ B2 ∧ (∀ x, x ∈ B3 ↔ x ∈ B0 ∨ (q = true ∧ x = w)) ∧ B3.length = B0.length + (if q = true then 1 else 0) ∧ ∀ y ∈ B2, w < y := by
    rcases hq with ⟨rfl, e⟩ | ⟨rfl, rfl, hw⟩
    · refine ⟨B0 ++ [w], by rw [e2, e]; simp, fun x => by simp, by simp, ?_⟩
      rw [e2, e] at hB
      exact (rising_head hB).2
    · exact ⟨B0, e2, fun x => by simp, by simp, hw⟩
  have hor : ∀ x, (x ∈ A3 ∨ x ∈ B3) ↔ ((x ∈ A0 ∨ x ∈ B0) ∨ x = w) := fun x => by
    rw [mA, mB]
    rcases hpq with h | h <;> simp only [h, true_and] <;> grind
  refine ⟨A3, B3, eA, eB, ?_, fun x => ?_, fun x hx => ?_, ?_⟩
  · split
    · exact rising_snoc h3 hKw
    · exact h3
  · rw [hor x]
    by_cases hk : k p q = true
    · rw [if_pos hk, List.mem_append, List.mem_singleton, h4 x]
      constructor
      · rintro (h | rfl)
        · exact ⟨h.1, .inl h.2⟩
        · exact ⟨by rw [hwA, hwB]; exact hk, .inr rfl⟩
      · rintro ⟨h1, h | rfl⟩
        · exact .inl ⟨h1, h⟩
        · exact .inr rfl
    · rw [if_neg hk, h4 x]
      constructor
      · rintro ⟨h1, h2⟩; exact ⟨h1, .inl h2⟩
      · rintro ⟨h1, h | rfl⟩
        · exact ⟨h1, h⟩
        · rw [hwA, hwB] at h1; exact absurd h1 hk
  · have s2A : ∀ y ∈ A2, y ∈ A1 := fun y hy => by
      rcases hp with ⟨_, e⟩ | ⟨_, e, _⟩
      · rw [e]; exact List.mem_cons_of_mem _ hy
      · rw [← e]; exact hy
    have s2B : ∀ y ∈ B2, y ∈ B1 := fun y hy => by
      rcases hq with ⟨_, e⟩ | ⟨_, e, _⟩
      · rw [e]; exact List.mem_cons_of_mem _ hy
      · rw [← e]; exact hy
    rcases (hor x).1 hx with h | rfl
    · exact ⟨fun y hy => (h5 x h).1 y (s2A y hy), fun y hy => (h5 x h).2 y (s2B y hy)⟩
    · exact ⟨gA, gB⟩
  · rw [lA, lB]
    have : (if k p q = true then K ++ [w] else K).length ≤ K.length + 1 := by split <;> simp
    rcases hpq with h | h
    · rw [if_pos h]; omega
    · rw [if_pos h]; omega

/-- The words of two rows that are kept for the sides they are on. -/
def Chosen (k : Bool → Bool → Bool) (A B K : List Int) : Prop := Rising K ∧ ∀ x, x ∈ K ↔ k (decide (x ∈ A)) (decide (x ∈ B)) = true ∧ (x ∈ A ∨ x ∈ B)

theorem Chosen.one {k : Bool → Bool → Bool} {A B A' B' K K' : List Int} (h : Chosen k A B K) (h' : Chosen k A' B' K') (eA : ∀ x, x ∈ A ↔ x ∈ A') (eB : ∀ x, x ∈ B ↔ x ∈ B') : K = K' :=
  rising_ext h.1 h'.1 fun x => by rw [h.2 x, h'.2 x, decide_eq_decide.2 (eA x), decide_eq_decide.2 (eB x), eA x, eB x]

end Go.Proofs.YtdklpgphmoaniaaGreatDoor
