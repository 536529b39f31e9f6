/-
  Plain facts on words that are free of one another.
-/
import Derived.Test.YtlfjfendlohekabGreatDoorM2C
import Derived.Test.YtlfjfendlohekabGreatDoorProg
import Derived.Handy
import Derived.Deep.QuietTactic
import Derived.WalkSpells
import Derived.WalkLawsBesides
import Derived.BigQuiet
import Derived.PlainAid
import Derived.Deep.RegionWith
import Derived.Laws.BitsAllLaws
namespace Go.Proofs.YtlfjfendlohekabGreatDoor
open Go.RowKit

/-- Words, none twice, none within another one. -/
def FreeP (L : List Int) : Prop := L.Nodup ∧ (∀ x ∈ L, Whole x) ∧ Anti L

theorem nodup_sub : ∀ (K L : List Int), K.Nodup → (∀ x ∈ K, x ∈ L) → K.length ≤ L.length ∧ (L.length ≤ K.length → L.Perm K)
  | [], L, _, _ => ⟨by simp, fun h => by
      have : L = [] := List.length_eq_zero_iff.1 (by simpa using h)
      rw [this]⟩
  | a :: K, L, hn, hs => by
    have hn' := List.nodup_cons.1 hn
    obtain ⟨L1, L2, rfl⟩ := List.append_of_mem (hs a (List.mem_cons_self ..))
    have ih := nodup_sub K (L1 ++ L2) hn'.2 fun x hx => by
      have h1 := hs x (List.mem_cons_of_mem _ hx)
      have hne : x ≠ a := fun e => hn'.1 (e ▸ hx)
      simp only [List.mem_append, List.mem_cons] at h1 ⊢
      rcases h1 with h | h | h
      · exact .inl h
      · exact absurd h hne
      · exact .inr h
    have e : (L1 ++ a :: L2).length = (L1 ++ L2).length + 1 := by simp; omega
    refine ⟨by rw [e, List.length_cons]; omega, fun h => ?_⟩
    have hp := ih.2 (by rw [e, List.length_cons] at h; omega)
    exact List.perm_middle.trans (List.Perm.cons a hp)

theorem set_short {K L : List Int} (hK : K.Nodup) (hm : ∀ x, x ∈ K ↔ x ∈ L) : K.length < L.length ↔ ¬ L.Nodup := by
  have h := nodup_sub K L hK fun x hx => (hm x).1 hx
  constructor
  · intro hlt hL
    have := nodup_ext_len hK hL hm
    omega
  · intro hL
    by_cases hlt : K.length < L.length
    · exact hlt
    · exact absurd ((h.2 (by omega)).nodup_iff.2 hK) hL

/-- Free of one another, by each word's line from its parent on. -/
theorem free_iff {K L : List Int} (hK : K.Nodup) (hm : ∀ x, x ∈ K ↔ x ∈ L) : FreeP L ↔ (¬ K.length < L.length) ∧ (∀ x ∈ K, Whole x) ∧ ∀ x ∈ K, 0 < wR x → ∀ p, Above p (upW x) → ¬ p ∈ K := by
  rw [set_short hK hm]
  unfold FreeP
  constructor
  · rintro ⟨h1, h2, h3⟩
    refine ⟨fun h => h h1, fun x hx => h2 x ((hm x).1 hx), fun x hx hr p hp hpK => ?_⟩
    have hw := h2 x ((hm x).1 hx)
    have hu := up_whole hw hr
    have e := h3 p ((hm p).1 hpK) x ((hm x).1 hx) (above_up hw hr hp)
    have := hp.size hu.1
    rw [e, hu.2] at this
    omega
  · rintro ⟨h1, h2, h3⟩
    refine ⟨Classical.not_not.1 h1, fun x hx => h2 x ((hm x).2 hx), fun p hp q hq ha => ?_⟩
    have hw := h2 q ((hm q).2 hq)
    rcases above_cases hw ha with e | ⟨hr, hu⟩
    · exact e
    · exact absurd ((hm p).2 hp) (h3 q ((hm q).2 hq) hr p hu)

end Go.Proofs.YtlfjfendlohekabGreatDoor
