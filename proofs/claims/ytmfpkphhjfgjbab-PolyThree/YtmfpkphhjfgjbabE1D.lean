/-
  What the texts ERing, ESmall say, so far as this seat's proofs need it.
-/
import Derived.Test.YtmfpkphhjfgjbabPD
import Derived.Test.YtmfpkphhjfgjbabProg
import Derived.Handy
import Derived.Deep.QuietTactic
import Derived.WalkSpells
import Derived.WalkLawsBesides
import Derived.BigQuiet
import Derived.PlainAid
import Derived.Deep.RegionWith
import Derived.Laws.BitsAllLaws
import Derived.Deep.RegionHeld3
namespace Go.Proofs.Ytmfpkphhjfgjbab
open Go.RowKit

theorem drewB (w : World) : Below w.heap.size w w.drew := (Below.refl _ _).drew

theorem keepTwo {w0 a b : World} {p0 p1 : Addr} {v0 v1 : Value} (hb : Below a.heap.size a b) (h : a.cell? p0 = some v0 ∧ a.cell? p1 = some v1 ∧ Below w0.heap.size w0 a) :
    b.cell? p0 = some v0 ∧ b.cell? p1 = some v1 ∧ Below w0.heap.size w0 b := ⟨keepCell hb h.1, keepCell hb h.2.1, belowT h.2.2 hb⟩

end Go.Proofs.Ytmfpkphhjfgjbab
namespace Go.Proofs.Ytmfpkphhjfgjbab
open Go.RowKit

theorem store_keep {w : World} {p q : Addr} {v u : Value} (h : w.cell? p = some v) (ne : q ≠ p) : (w.setCell q u).cell? p = some v := (World.cell?_setCell_other _ _ _ _ ne).trans h

theorem store_new {w : World} {p : Addr} {x u : Value} (h : w.cell? p = some x) : (w.setCell p u).cell? p = some u := World.cell?_setCell_same _ _ _ h

/-- A number of the lattice that was just made: nought, in a block that may be written. -/
def NewE (B : Nat) (w : World) : Prop := w.cell? ⟨B, 0, none⟩ = some (.int .i64 0) ∧ w.cell? ⟨B, 1, none⟩ = some (.int .i64 0) ∧ w.frozen? ⟨B, 0, none⟩ = false ∧ w.frozen? ⟨B, 1, none⟩ = false

theorem keepNew {B : Nat} {a b : World} (hb : Below a.heap.size a b) (h : NewE B a) : NewE B b := ⟨keepCell hb h.1, keepCell hb h.2.1, keepFrozen hb h.1 h.2.2.1, keepFrozen hb h.2.1 h.2.2.2⟩

theorem allocB (w : World) (o : Obj) : Below w.heap.size w (w.alloc o) := (Below.refl _ _).alloc (Nat.le_refl _) _

end Go.Proofs.Ytmfpkphhjfgjbab
