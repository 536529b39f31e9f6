/-
  A list of numbers that a law is handed, opened; and shut again behind the call, in a world that is as it was below; no condition beyond those written.
-/
import Derived.Test.YtdklpgphmoaniaaGreatDoorI1X
import Derived.Test.YtdklpgphmoaniaaGreatDoorUX
import Derived.Laws.BitsAllLaws
import Derived.Handy
import Derived.Deep.QuietTactic
import Derived.Test.YtdklpgphmoaniaaGreatDoorProg
import Derived.WalkSpells
import Derived.WalkLawsBesides
import Derived.BigQuiet
import Derived.PlainAid
import Derived.Deep.RegionWith
import Derived.Deep.RegionHeld3
import Derived.WalkSmall
import Derived.Deep.CutRange
import Derived.BigRegion
import Derived.OwnWalk
import Derived.Laws.OwnMore
import Derived.OneCell
import Derived.Laws.CopyOwn
import Derived.Sort.Row
import Derived.ChangeSlices
import Derived.OpenShut
namespace Go.Proofs.YtdklpgphmoaniaaGreatDoor
open Go.ChangeShapes Go.WideShapes Go.RowKit

/-- The value s is a slice that holds the numbers L, of the kind k. -/
def LstK (k : IntKind) (w : World) (s : Value) (L : List Int) : Prop :=
  ∃ p cap, s = .slice p L.length cap ∧ L.length ≤ cap ∧ ∀ (j : Nat) (hj : j < L.length), ∃ g o, p = some ⟨g, o, none⟩ ∧ w.cell? ⟨g, o + j, none⟩ = some (.int k L[j])

theorem LstK.u64 {w : World} {s : Value} {L : List Int} (h : LstK .u64 w s L) : Lst w s L := h

theorem LstK.keep {k : IntKind} {w w' : World} {s : Value} {L : List Int} (h : LstK k w s L) (hb : Below w.heap.size w w') : LstK k w' s L := by
  obtain ⟨p, cap, h1, h2, h3⟩ := h
  refine ⟨p, cap, h1, h2, fun j hj => ?_⟩
  obtain ⟨g, o, e, hc⟩ := h3 j hj
  exact ⟨g, o, e, keepCell hb hc⟩

theorem u64_wf {x : Int} (h : (Lit.int .u64 x).wf = true) : U64 x := by
  have e1 : IntKind.u64.min = 0 := rfl
  have e2 : IntKind.u64.max = 18446744073709551615 := rfl
  simp [Lit.wf, e1, e2] at h
  unfold U64
  omega

theorem i64_wf {x : Int} (h : (Lit.int .i64 x).wf = true) : -9223372036854775808 ≤ x ∧ x ≤ 9223372036854775807 := by
  have e1 : IntKind.i64.min = -9223372036854775808 := rfl
  have e2 : IntKind.i64.max = 9223372036854775807 := rfl
  simp [Lit.wf, e1, e2] at h
  omega

set_option maxHeartbeats 1000000 in
theorem open_list {P : Program} {b0 : Nat} {H : Type} {enc : TypeId × Value → H} {W : World} {t e : TypeId} {k : IntKind} {v : Value} {d : DataW H} {p : List MemPlace} (ht : P.underlying t = some (.slice e)) (he : P.underlying e = some (.int k)) (hc : P.cellsOf e = 1)
    (hval : Value.okWide P W .any b0 t v) (h : DataW.Trod enc P W 0 (fun _ => true) true t v d p) :
    ∃ L : List Int, (LstK k W v L ∧ (v = .slice none 0 0 ∨ ∃ a m c, v = .slice (some a) m c)) ∧ (∀ x ∈ L, (Lit.int k x).wf = true) ∧ ∀ W', Below W.heap.size W W' → ∃ p', DataW.Trod enc P W' 0 (fun b => decide (b < W.heap.size)) true t v d p' := by
  obtain ⟨a0, len, cap, rfl⟩ := okWide_slice ht hval
  obtain ⟨fuel, hf⟩ := h
  rcases open_ints ht he hc hf with ⟨hcs, hx⟩ | ⟨a, len', cap', zs, hcs, hb, hl, hm, hz, hx, hcell, hwz⟩
  · simp [Value.cells] at hcs
    obtain ⟨rfl, rfl, rfl⟩ := hcs
    simp only [Prod.mk.injEq] at hx
    obtain ⟨rfl, rfl⟩ := hx
    refine ⟨[], ⟨⟨none, 0, rfl, Nat.le_refl _, fun j hj => absurd hj (Nat.not_lt_zero _)⟩, .inl rfl⟩, fun x hx => by simp at hx, fun W' _ => ⟨[], 1, ?_⟩⟩
    rw [DataW.trod_step]
    unfold DataW.trodStep
    simp [Value.cells, ht]
  · simp [Value.cells] at hcs
    obtain ⟨rfl, rfl, rfl⟩ := hcs
    simp only [Prod.mk.injEq] at hx
    obtain ⟨rfl, rfl⟩ := hx
    simp only [if_true] at hz
    have hlt : (zs.take len).length = len := by simp; omega
    refine ⟨zs.take len, ⟨?_, .inr ⟨a, len, cap, rfl⟩⟩, fun x hx => hwz x (List.mem_of_mem_take hx), fun W' hB => ⟨MemPlace.row a zs.length, 2, ?_⟩⟩
    · by_cases hl0 : len = 0
      · refine ⟨some a, cap, by rw [hlt], by omega, fun j hj => by omega⟩
      · obtain ⟨b, off, spot⟩ := a
        have hspot : spot = none := by simpa [Addr.add] using World.cell?_spot (hcell 0 (by omega))
        subst hspot
        refine ⟨_, cap, by rw [hlt], by omega, fun j hj => ⟨b, off, rfl, ?_⟩⟩
        rw [← add_plain, hcell j (by omega)]
        have hj2 : j < zs.length := by omega
        simp [List.getD, hj2]
    · have hz2 : zs.length = (if decide (a.block < W.heap.size) then cap else len) := by
        by_cases h0 : cap = 0
        · have : len = 0 := by omega
          rw [hz, h0, this]
          simp
        · have hlt2 := World.block_lt_of_cell? _ _ (hcell 0 (by omega))
          rw [block_add] at hlt2
          rw [decide_eq_true hlt2, hz]
          simp
      exact shut_ints 0 ht he hc (Nat.zero_le _) hl hm hz2 (fun i hi => keepCell hB (hcell i hi)) hwz

end Go.Proofs.YtdklpgphmoaniaaGreatDoor
