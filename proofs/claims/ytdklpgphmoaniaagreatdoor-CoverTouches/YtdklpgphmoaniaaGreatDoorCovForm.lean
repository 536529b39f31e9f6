/-
  The forms of what package cover tells: a row of words that touch a box, or that there are too many.
-/
import Derived.Test.YtdklpgphmoaniaaGreatDoorRCov
import Derived.Test.YtdklpgphmoaniaaGreatDoorCovSize
import Derived.Test.YtdklpgphmoaniaaGreatDoorProg
import Derived.Handy
import Derived.Deep.QuietTactic
import Derived.WalkSpells
import Derived.WalkLawsBesides
import Derived.BigQuiet
import Derived.PlainAid
import Derived.Deep.RegionWith
import Derived.Laws.BitsAllLaws
import Derived.Deep.RegionHeld3
import Derived.WalkSmall
import Derived.WalkKit
import Derived.OwnWalk
import Derived.Laws.OwnMore
import Derived.Deep.CutRange
import Derived.BigRegion
import Derived.OneCell
import Derived.Laws.CopyOwn
import Derived.Sort.Row
import Derived.Deep.LoopGhost
import Derived.RangeFuncFrom
import Derived.RangeFuncCalls
import Derived.RangeFuncLeaves
import Derived.OwnWalkIn
import Derived.TacticsInMore
import Derived.LoopNIn
import Derived.LoopIn
import Derived.RegionIn
import Derived.Stop.RegionWithIn
import Derived.Sort.LotD3
import Derived.Deep.Cut
import Derived.Sort.WalkA6
import Derived.Sort.Walk13a
import Derived.Sort.LotA
import Derived.Sort.LotB
import Derived.Sort.LotD1
import Derived.Deep.Draws
import Derived.BigGuard
import Derived.BigCall
import Derived.CellFam
import Derived.Sort.WalkB3
namespace Go.Proofs.YtdklpgphmoaniaaGreatDoor
open Go.RowKit

/-- What Box tells of a box that may be. -/
def TellsCB (K r : Nat) (l1 l2 u1 u2 : Int) (e : Ending) (w' : World) : Prop :=
  (∃ s L, e = .returned (.tuple #[s, .int .i64 0]) ∧ RowAt 0 w' s L ∧ Rising L ∧ (∀ x, x ∈ L ↔ TW K l1 l2 u1 u2 x r) ∧ L.length ≤ 20000) ∨
  ((∃ p c, e = .returned (.tuple #[.slice p 0 c, .int .i64 7])) ∧ Many K l1 l2 u1 u2 r 20000)

/-- What Centres tells of a box that may be. -/
def TellsCC (K r : Nat) (l1 l2 u1 u2 : Int) (e : Ending) (w' : World) : Prop :=
  (∃ s L, e = .returned (.tuple #[s, .int .i64 0]) ∧ RowAt 0 w' s L ∧ Rising L ∧ (∀ x, x ∈ L ↔ TW K l1 l2 u1 u2 x r ∧ inCB K l1 l2 u1 u2 x = true) ∧ L.length ≤ 20000) ∨
  ((∃ p c, e = .returned (.tuple #[.slice p 0 c, .int .i64 7])) ∧ Many K l1 l2 u1 u2 r 20000)

/-- No more than 20,000: a row is told. -/
theorem TellsCB.row {K r : Nat} {l1 l2 u1 u2 : Int} {e : Ending} {w : World} (h : TellsCB K r l1 l2 u1 u2 e w) (hn : ¬ Many K l1 l2 u1 u2 r 20000) :
    ∃ s L, e = .returned (.tuple #[s, .int .i64 0]) ∧ RowAt 0 w s L ∧ Rising L ∧ (∀ x, x ∈ L ↔ TW K l1 l2 u1 u2 x r) ∧ L.length ≤ 20000 := h.elim id fun k => absurd k.2 hn

theorem TellsCC.row {K r : Nat} {l1 l2 u1 u2 : Int} {e : Ending} {w : World} (h : TellsCC K r l1 l2 u1 u2 e w) (hn : ¬ Many K l1 l2 u1 u2 r 20000) :
    ∃ s L, e = .returned (.tuple #[s, .int .i64 0]) ∧ RowAt 0 w s L ∧ Rising L ∧ (∀ x, x ∈ L ↔ TW K l1 l2 u1 u2 x r ∧ inCB K l1 l2 u1 u2 x = true) ∧ L.length ≤ 20000 := h.elim id fun k => absurd k.2 hn

theorem TellsCB.many {K r : Nat} {l1 l2 u1 u2 : Int} {e : Ending} {w : World} (h : TellsCB K r l1 l2 u1 u2 e w) (hm : Many K l1 l2 u1 u2 r 20000) : ∃ p c, e = .returned (.tuple #[.slice p 0 c, .int .i64 7]) :=
  h.elim (fun ⟨_, L, _, _, _, h1, h2⟩ => absurd (hm.all h1) (by omega)) fun k => k.1

theorem TellsCC.many {K r : Nat} {l1 l2 u1 u2 : Int} {e : Ending} {w : World} (h : TellsCC K r l1 l2 u1 u2 e w) (hm : ∀ L : List Int, (∀ x, x ∈ L ↔ TW K l1 l2 u1 u2 x r ∧ inCB K l1 l2 u1 u2 x = true) → 20000 < L.length) : ∃ p c, e = .returned (.tuple #[.slice p 0 c, .int .i64 7]) :=
  h.elim (fun ⟨_, L, _, _, _, h1, h2⟩ => absurd (hm L h1) (by omega)) fun k => k.1

/-- A box of some cells is touched by few. -/
theorem few_box {K r : Nat} (hK : K ≤ 12) {l1 l2 u1 u2 : Int} (hx : u1 - l1 ≤ 8 * szK K) (hy : u2 - l2 ≤ 8 * szK K) : ¬ Many K l1 l2 u1 u2 r 20000 := fun ⟨L, h1, h2, h3⟩ => by
  have := box_few hK hx hy h1 h2
  omega

theorem few_point {K r : Nat} (hK : K ≤ 12) (x y : Int) : ¬ Many K x y x y r 20000 := fun ⟨L, h1, h2, h3⟩ => by
  have := point_few hK h1 h2
  omega

/-- At a cell's own centre: that cell alone. -/
theorem own_centre {K r : Nat} (hK : K ≤ 12) {a b : Int} (hok : Ok4 (r : Int) a b) (x : Int) : x ∈ [wordOf r a b] ↔ TW K (poX K a b) (poY K a b) (poX K a b) (poY K a b) x r := by
  rw [List.mem_singleton]
  constructor
  · rintro rfl
    exact tw_mk hok (tou_at ⟨Int.le_refl _, Int.le_refl _⟩ ⟨Int.le_refl _, Int.le_refl _⟩ (near_self hK a b).1)
  · rintro ⟨h1, h2, h3⟩
    have e := centre_own hK h3
    have w := word_cell h1
    rw [h2, e.1, e.2, Int.toNat_natCast] at w
    exact w.symm

theorem row_own {w : World} {x : Int} {g c : Nat} (h : w.cell? ⟨g, 0, none⟩ = some (.int .u64 x)) : RowAt 0 w (.slice (some ⟨g, 0, none⟩) 1 c) [x] :=
  .inr ⟨g, c, rfl, Nat.zero_le _, fun j hj => by
    obtain rfl : j = 0 := by simp at hj; omega
    exact h⟩

end Go.Proofs.YtdklpgphmoaniaaGreatDoor
