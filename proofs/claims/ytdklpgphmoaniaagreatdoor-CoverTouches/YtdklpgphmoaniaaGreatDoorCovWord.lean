/-
  Plain facts: the words of the cells that touch a box; a list of such words that holds the first corner's, and each that is next to one of its own, holds all. No condition beyond those written.
-/
import Derived.Test.YtdklpgphmoaniaaGreatDoorCovOk
import Derived.Test.YtdklpgphmoaniaaGreatDoorProg
import Derived.Handy
import Derived.Deep.QuietTactic
import Derived.WalkSpells
import Derived.WalkLawsBesides
import Derived.BigQuiet
import Derived.PlainAid
import Derived.Deep.RegionWith
import Derived.Laws.BitsAllLaws
namespace Go.Proofs.YtdklpgphmoaniaaGreatDoor

/-- The word is that of a cell that touches the box. -/
def TW (K : Nat) (l1 l2 u1 u2 x : Int) (r : Nat) : Prop := Whole x ∧ wR x = (r : Int) ∧ Tou K l1 l2 u1 u2 (cellA x) (cellB x)

theorem tw_mk {K : Nat} {l1 l2 u1 u2 a b : Int} {r : Nat} (h : Ok4 (r : Int) a b) (ht : Tou K l1 l2 u1 u2 a b) : TW K l1 l2 u1 u2 (wordOf r a b) r := by
  have hp := word_parts h
  have hc := cell_word h
  refine ⟨hp.1, hp.2.1, ?_⟩
  rw [hc.1, hc.2]
  exact ht

theorem bfs_all {K r : Nat} (hK : K ≤ 12) (hr : 12 - (r : Int) = (K : Int)) {l1 l2 u1 u2 sa sb : Int} (h1 : 0 ≤ l1) (h2 : 0 ≤ l2) (h3 : u1 < 1073741824) (h4 : u2 < 1073741824) (h5 : l1 ≤ u1) (h6 : l2 ≤ u2) (hs : HexAt (dvK K) (nuA K l1 l2) (nuB K l1 l2) sa sb) {F : List Int}
    (hF : ∀ x ∈ F, TW K l1 l2 u1 u2 x r) (h0 : wordOf r sa sb ∈ F) (hcl : ∀ x ∈ F, ∀ p q, stp p q = 1 → Ok4 (r : Int) (cellA x + p) (cellB x + q) → Tou K l1 l2 u1 u2 (cellA x + p) (cellB x + q) → wordOf r (cellA x + p) (cellB x + q) ∈ F) (x : Int) : x ∈ F ↔ TW K l1 l2 u1 u2 x r := by
  refine ⟨hF x, fun ⟨hw, hR, ht⟩ => ?_⟩
  have key := tou_ind hK ⟨Int.le_refl l1, h5⟩ ⟨Int.le_refl l2, h6⟩ hs (fun a b => wordOf r a b ∈ F) h0 (fun a b a' b' hst ht' hp ht => by
    have ho := tou_ok hK hr h1 h2 h3 h4 ht
    have ho' := tou_ok hK hr h1 h2 h3 h4 ht'
    have hc := cell_word ho'
    have := hcl _ hp (a - a') (b - b') hst (by rw [hc.1, hc.2, show a' + (a - a') = a by omega, show b' + (b - b') = b by omega]; exact ho) (by rw [hc.1, hc.2, show a' + (a - a') = a by omega, show b' + (b - b') = b by omega]; exact ht)
    rwa [hc.1, hc.2, show a' + (a - a') = a by omega, show b' + (b - b') = b by omega] at this) (cellA x) (cellB x) ht
  have e := word_cell hw
  rw [hR, Int.toNat_natCast] at e
  rwa [e] at key

end Go.Proofs.YtdklpgphmoaniaaGreatDoor
