/-
  A list of words as a call finds it, whoever made it: its words' cells; a list of none may lie anywhere.
-/
import Derived.Test.YtogkfmoediiieaaPC
import Derived.Test.YtogkfmoediiieaaUC
import Derived.Laws.BitsAllLaws
import Derived.Handy
import Derived.Deep.QuietTactic
import Derived.Test.YtogkfmoediiieaaProg
import Derived.WalkSpells
import Derived.WalkLawsBesides
import Derived.BigQuiet
import Derived.PlainAid
import Derived.Deep.RegionWith
import Derived.Deep.RegionHeld3
import Derived.WalkSmall
import Derived.Deep.CutRange
import Derived.BigRegion
import Derived.OwnWalk
import Derived.Laws.OwnMore
import Derived.OneCell
import Derived.Laws.CopyOwn
import Derived.Sort.Row
namespace Go.Proofs.Ytogkfmoediiieaa
open Go.RowKit

/-- The value s is a slice that holds the words L. -/
def Lst (w : World) (s : Value) (L : List Int) : Prop :=
  ∃ p cap, s = .slice p L.length cap ∧ L.length ≤ cap ∧ ∀ (j : Nat) (hj : j < L.length), ∃ g o, p = some ⟨g, o, none⟩ ∧ w.cell? ⟨g, o + j, none⟩ = some (.int .u64 L[j])

theorem Lst.keep {w w' : World} {s : Value} {L : List Int} (h : Lst w s L) (hb : Below w.heap.size w w') : Lst w' s L := by
  obtain ⟨p, cap, h1, h2, h3⟩ := h
  refine ⟨p, cap, h1, h2, fun j hj => ?_⟩
  obtain ⟨g, o, e, hc⟩ := h3 j hj
  exact ⟨g, o, e, keepCell hb hc⟩

theorem Lst.row {w : World} {g o cap : Nat} {L : List Int} (hc : L.length ≤ cap) (h : ∀ (j : Nat) (hj : j < L.length), w.cell? ⟨g, o + j, none⟩ = some (.int .u64 L[j])) : Lst w (.slice (some ⟨g, o, none⟩) L.length cap) L :=
  ⟨_, cap, rfl, hc, fun j hj => ⟨g, o, rfl, h j hj⟩⟩

theorem Lst.none' (w : World) (p : Option Addr) (cap : Nat) : Lst w (.slice p 0 cap) [] := ⟨p, cap, rfl, Nat.zero_le _, fun _ hj => absurd hj (Nat.not_lt_zero _)⟩

theorem Lst.own {w : World} {base n : Nat} {v : Value} {L : List Int} (h : w.ownsRow base 24 1 v n (vals L)) : Lst w v L := by
  have hl : L.length = n := by have := h.1; rw [vals_len] at this; omega
  subst hl
  rcases h.2 with ⟨rfl, h0⟩ | ⟨g, c, cur, rfl, _⟩
  · have : L = [] := List.length_eq_zero_iff.1 h0
    subst this
    exact Lst.none' w none 0
  · have hc := own_cells h
    refine Lst.row ?_ fun j hj => by rw [Nat.zero_add]; exact hc.2.1 j hj
    rcases h.2 with ⟨h1, _⟩ | ⟨g2, c2, cur2, h1, _, _, h4, _⟩
    · cases h1
    · simp only [Value.slice.injEq, Option.some.injEq, Addr.mk.injEq, and_true, true_and] at h1
      rw [h1.2]; exact h4

end Go.Proofs.Ytogkfmoediiieaa
