/-
  What the document's own Children tells: the seven cells below one, one behind the other; for any cell, in whatever memory.
-/
import Derived.Test.YteipijgkiobmaaaDoorNB5
import Derived.Test.YteipijgkiobmaaaDoorNB4
import Derived.OwnWalk
import Derived.Laws.OwnMore
namespace Go.Proofs.YteipijgkiobmaaaDoor
open Go.RowKit

/-- The first k children, one behind the other. -/
def rowK (G : Nat → Int) : Nat → List Value
  | 0 => []
  | k + 1 => rowK G k ++ [.int .i64 (G (k * 3)), .int .i64 (G (k * 3 + 1)), .int .i64 (G (k * 3 + 2))]
theorem keepLow {B : Nat} {a b : World} {p : Addr} {v : Value} (h : Below B a b) (hc : a.cell? p = some v) (hl : p.block < B) : b.cell? p = some v := (h.cell hl).trans hc
theorem own_keep {a b : World} {base : Nat} {e : TypeId} {size : Nat} {v : Value} {n : Nat} {xs : List Value} (hb : Below a.heap.size a b) (h : a.ownsRow base e size v n xs) : b.ownsRow base e size v n xs :=
  h.kept (row := none) ⟨hb.os, hb.tape, hb.output, hb.size, fun k hk _ => hb.block k hk⟩ (by cases v.ownBlock <;> simp)
theorem three_lie (w : World) (B : Nat) (h : w.heap.size = B) (x y z : Int) (e : TypeId) : ∀ j u, ([.int .i64 x, .int .i64 y, .int .i64 z] : List Value)[j]? = some u → (w.alloc (.cells #[.int .i64 x, .int .i64 y, .int .i64 z] e)).cell? ((⟨B, 0, none⟩ : Addr).add j) = some u := by
  subst h
  intro j u hj
  match j, hj with
  | 0, hj => simp at hj; subst hj; simp [Addr.add]
  | 1, hj => simp at hj; subst hj; simp [Addr.add]
  | 2, hj => simp at hj; subst hj; simp [Addr.add]
theorem three_one (x y z : Int) : ∀ u ∈ ([.int .i64 x, .int .i64 y, .int .i64 z] : List Value), u.oneCell' = true := by
  intro u hu
  simp at hu
  rcases hu with rfl | rfl | rfl <;> rfl
theorem own_shape {w : World} {base : Nat} {e : TypeId} {size : Nat} {v : Value} {n : Nat} {xs : List Value} (h : w.ownsRow base e size v n xs) (hn : 0 < n) : ∃ g cap, v = .slice (some ⟨g, 0, none⟩) n cap := by
  rcases h.2 with ⟨_, h0⟩ | ⟨g, cap, cur, hv, _⟩
  · omega
  · exact ⟨g, cap, hv⟩
theorem own_block {w : World} {base : Nat} {e : TypeId} {size : Nat} {v : Value} {n : Nat} {xs : List Value} (h : w.ownsRow base e size v n xs) : ∀ k, v.ownBlock = some k → base ≤ k := by
  intro k hk
  rcases h.2 with ⟨rfl, _⟩ | ⟨g, cap, cur, rfl, hb, _⟩
  · simp [Value.ownBlock] at hk
  · simp [Value.ownBlock] at hk; omega
theorem rowK_at (G : Nat → Int) (o : Nat) (ho : o < 21) : (rowK G 7)[o]? = some (.int .i64 (G o)) := by
  have h : o = 0 ∨ o = 1 ∨ o = 2 ∨ o = 3 ∨ o = 4 ∨ o = 5 ∨ o = 6 ∨ o = 7 ∨ o = 8 ∨ o = 9 ∨ o = 10 ∨ o = 11 ∨ o = 12 ∨ o = 13 ∨ o = 14 ∨ o = 15 ∨ o = 16 ∨ o = 17 ∨ o = 18 ∨ o = 19 ∨ o = 20 := by omega
  rcases h with rfl | rfl | rfl | rfl | rfl | rfl | rfl | rfl | rfl | rfl | rfl | rfl | rfl | rfl | rfl | rfl | rfl | rfl | rfl | rfl | rfl <;> rfl
theorem infoCell : (Tryd.prog.info? 29).map (fun i => (i.zero, i.size, i.bytes)) = some (some (.agg #[.int .i64 0, .int .i64 0, .int .i64 0]), 3, 24) := by kernel_rfl

/-- The ending that tells seven cells, of whatever room. -/
def TellsC (G : Nat → Int) (e : Ending) (w' : World) : Prop := ∃ g cap, e = .returned (.tuple #[.slice (some ⟨g, 0, none⟩) 7 cap, .int .i64 0]) ∧ ∀ o < 21, w'.cell? ⟨g, o, none⟩ = some (.int .i64 (G o))

end Go.Proofs.YteipijgkiobmaaaDoor
