/-
  Package cover's edges: which corners one keeps on its left; whether one outline leaves another out; in whatever memory.
-/
import Derived.Test.YtdklpgphmoaniaaGreatDoorQSweep
import Derived.Test.YtdklpgphmoaniaaGreatDoorProg
import Derived.Handy
import Derived.Deep.QuietTactic
import Derived.WalkSpells
import Derived.WalkLawsBesides
import Derived.BigQuiet
import Derived.PlainAid
import Derived.Deep.RegionWith
import Derived.Laws.BitsAllLaws
import Derived.Sort.LotA
import Derived.Sort.LotB
import Derived.Deep.RegionHeld3
import Derived.WalkSmall
import Derived.Deep.CutRange
import Derived.BigRegion
import Derived.OwnWalk
import Derived.Laws.OwnMore
import Derived.OneCell
import Derived.Laws.CopyOwn
import Derived.Sort.Row
import Derived.Sort.WalkB3
import Derived.Laws.StructEq
import Derived.Deep.AppendLies
import Derived.Deep.RegionLaw
import Derived.RangeFuncFrom
import Derived.RangeFuncCalls
import Derived.RangeFuncLeaves
import Derived.WalkKit
import Derived.OwnWalkIn
import Derived.TacticsInMore
import Derived.LoopNIn
import Derived.LoopIn
import Derived.RegionIn
import Derived.Stop.RegionWithIn
import Derived.Test.YtdklpgphmoaniaaGreatDoorRows
import Derived.LaidMore
import Derived.Stop.LaidErr
namespace Go.Proofs.YtdklpgphmoaniaaGreatDoor
open Go.RowKit

/-- An edge: where it leads from, and its way. -/
abbrev Ed := (Int × Int) × (Int × Int)

def edL (e : Ed) : List Value := [.int .i64 e.1.1, .int .i64 e.1.2, .int .i64 e.2.1, .int .i64 e.2.2]

def edV (L : List Ed) : List Value := L.flatMap edL

theorem edV_cons (e : Ed) (L : List Ed) : edV (e :: L) = .int .i64 e.1.1 :: .int .i64 e.1.2 :: .int .i64 e.2.1 :: .int .i64 e.2.2 :: edV L := rfl

theorem edV_app (L M : List Ed) : edV (L ++ M) = edV L ++ edV M := by unfold edV; rw [List.flatMap_append]

theorem edV_one (e : Ed) : edV [e] = [.int .i64 e.1.1, .int .i64 e.1.2, .int .i64 e.2.1, .int .i64 e.2.2] := by unfold edV; simp [edL]

theorem edV_len : ∀ L : List Ed, (edV L).length = L.length * 4
  | [] => rfl
  | p :: L => by rw [edV_cons]; simp only [List.length_cons, edV_len L]; omega

theorem edV_at : ∀ (L : List Ed) (i : Nat) (h : i < L.length), (edV L)[i * 4]? = some (.int .i64 L[i].1.1) ∧ (edV L)[i * 4 + 1]? = some (.int .i64 L[i].1.2) ∧ (edV L)[i * 4 + 2]? = some (.int .i64 L[i].2.1) ∧ (edV L)[i * 4 + 3]? = some (.int .i64 L[i].2.2)
  | p :: L, 0, _ => by rw [edV_cons]; exact ⟨rfl, rfl, rfl, rfl⟩
  | p :: L, i + 1, h => by
    rw [edV_cons, show (i + 1) * 4 = i * 4 + 1 + 1 + 1 + 1 by omega]
    have := edV_at L i (by simpa using h)
    simp only [List.getElem?_cons_succ, List.getElem_cons_succ]
    exact this

/-- A row of edges of one's own. -/
def RowD (base : Nat) (v : Value) (L : List Ed) (w : World) : Prop := w.ownsRow base 130 4 v L.length (edV L)

theorem RowD.keep {base : Nat} {v : Value} {L : List Ed} {w w' : World} (h : RowD base v L w) (hb : Below w.heap.size w w') : RowD base v L w' := own_keep hb h

theorem RowD.any {base : Nat} {v : Value} {L : List Ed} {w : World} (h : RowD base v L w) : ∃ p c, v = .slice p L.length c := own_any h

theorem RowD.at_ {base : Nat} {v : Value} {L : List Ed} {w : World} (h : RowD base v L w) (i : Nat) (hi : i < L.length) :
    ∃ g c, v = .slice (some ⟨g, 0, none⟩) L.length c ∧ w.cell? ⟨g, i * 4, none⟩ = some (.int .i64 L[i].1.1) ∧ w.cell? ⟨g, i * 4 + 1, none⟩ = some (.int .i64 L[i].1.2) ∧ w.cell? ⟨g, i * 4 + 2, none⟩ = some (.int .i64 L[i].2.1) ∧ w.cell? ⟨g, i * 4 + 3, none⟩ = some (.int .i64 L[i].2.2) := by
  obtain ⟨g, c, e, hb, -⟩ := World.ownsRow.form h (by omega)
  have hO : w.ownsRow base 130 4 (.slice (some ⟨g, 0, none⟩) L.length c) L.length (edV L) := by rw [← e]; exact h
  have f := edV_at L i hi
  have c := fun j hj => World.ownsRow.cellAt hO j hj
  exact ⟨g, _, e, (c _ (by omega)).trans f.1, (c _ (by omega)).trans f.2.1, (c _ (by omega)).trans f.2.2.1, (c _ (by omega)).trans f.2.2.2⟩

/-- Small enough. -/
def EdB (e : Ed) : Prop := ((-34359738368 ≤ e.1.1 ∧ e.1.1 ≤ 34359738368) ∧ (-34359738368 ≤ e.1.2 ∧ e.1.2 ≤ 34359738368)) ∧ ((-16777216 ≤ e.2.1 ∧ e.2.1 ≤ 16777216) ∧ (-16777216 ≤ e.2.2 ∧ e.2.2 ≤ 16777216))

/-- A corner is kept. -/
def kpB (e f : Ed) : Bool := decide (e.2.2 * (f.1.1 - e.1.1) ≤ e.2.1 * (f.1.2 - e.1.2))

set_option maxHeartbeats 4000000 in
set_option maxRecDepth 20000 in
theorem q_keeps_core (a b c d x y p q m n : Int) (t : Bool) (ha : -34359738368 ≤ a ∧ a ≤ 34359738368) (hb : -34359738368 ≤ b ∧ b ≤ 34359738368) (hx : -34359738368 ≤ x ∧ x ≤ 34359738368) (hy : -34359738368 ≤ y ∧ y ≤ 34359738368)
    (hm : c * (y - b) = m) (hn : d * (x - a) = n) (m1 : -1152921504606846976 ≤ m ∧ m ≤ 1152921504606846976) (n1 : -1152921504606846976 ≤ n ∧ n ≤ 1152921504606846976) (ht : decide (n ≤ m) = t) (w : World) :
    Calls Tryz.prog 83 #[.agg #[.int .i64 a, .int .i64 b, .int .i64 c, .int .i64 d], .agg #[.int .i64 x, .int .i64 y, .int .i64 p, .int .i64 q]] w fun e w' => e = .returned (.bool t) ∧ Below w.heap.size w w' := by
  subst ht
  go_enter Tryz.func83, Tryz.ntmps83
  go_wp2
  go_ret
  exact ⟨rfl, by go_grown⟩

theorem q_keeps (e f : Ed) (he : EdB e) (hf : EdB f) (w : World) :
    Calls Tryz.prog 83 #[.agg #[.int .i64 e.1.1, .int .i64 e.1.2, .int .i64 e.2.1, .int .i64 e.2.2], .agg #[.int .i64 f.1.1, .int .i64 f.1.2, .int .i64 f.2.1, .int .i64 f.2.2]] w fun r w' => r = .returned (.bool (kpB e f)) ∧ Below w.heap.size w w' := by
  obtain ⟨⟨h1, h2⟩, h3, h4⟩ := he
  obtain ⟨⟨k1, k2⟩, -⟩ := hf
  have m1 := mul_in (a := e.2.1) (b := f.1.2 - e.1.2) (A := 16777216) (B := 68719476736) h3 (by omega)
  have m2 := mul_in (a := e.2.2) (b := f.1.1 - e.1.1) (A := 16777216) (B := 68719476736) h4 (by omega)
  exact q_keeps_core _ _ _ _ _ _ _ _ _ _ _ h1 h2 k1 k2 rfl rfl (by omega) (by omega) rfl w

end Go.Proofs.YtdklpgphmoaniaaGreatDoor
