/-
  The given statement of the law PolyTells: it returns true for every input, in whatever memory; the arguments read behind the call as they read before. The walk is polyTells_walk; here it is lifted.
-/
import Derived.Test.YtmfpkphhjfgjbaaRows
import Derived.Test.YtmfpkphhjfgjbaaLawPolyTells
import Derived.Test.YtmfpkphhjfgjbaaOpenL
import Derived.Test.YtmfpkphhjfgjbaaOpenG
import Derived.Carry
import Derived.WalkKit
import Derived.ProofKit
import Derived.OpenShut
namespace Go.Proofs.Ytmfpkphhjfgjbaa.polyTellsLift
open Go.ChangeShapes Go.WideShapes Go.ChangeAt Go.RowKit

theorem own : ownKnob Try.prog.godebug = none := by kernel_rfl
theorem cells_int64 : Try.prog.cellsOf 2 = 1 := by kernel_rfl
theorem shutB {H : Type} {enc : TypeId × Value → H} {W : World} {base : Nat} {sp : Nat → Bool} {held : Bool} (b : Bool) : DataW.Trod enc Try.prog W base sp held 4 (.bool b) (.lit (.bool b)) [] :=
  ⟨1, by simp [DataW.trod, Value.cells, Try.underlying4]⟩

set_option maxRecDepth 100000 in
theorem lifted (os : Os) (started : os.Started) (H : Type) (enc : TypeId × Value → H) :
    ReturnsInHanded {} Try.checked os 6 .any (Rows.polyTellsSpec.pre6 enc Try.prog Try.f6 Rows.polyTellsRow.domain false) (Rows.polyTellsSpec.post enc Try.prog Try.f6 false true false false) := by
  refine returnsInHanded_of_change (C := Try.checked) own started (by kernel_rfl) Try.func6
    (ChangeSpec.witness6 (enc := enc) (C := Try.checked) false ⟨#[], #[.slice none 0 0, .slice none 0 0, .int .i64 0, .int .i64 0], []⟩ 8 (by kernel_rfl) (by kernel_rfl) (by kernel_rfl) (by kernel_rfl)) ?_
  intro W base args ds gs before hval0 hW _ _
  have hval : ∀ (j : Nat) t v, Try.f6.params[j]? = some t → args[j]? = some v → Value.okWide Try.prog W .any base t v := hval0
  have hW' := hW
  obtain ⟨p, q, hA0, hV, rfl, hfz, hnd⟩ := hW
  have hA : DataW.TrodAll enc Try.prog W 0 (fun _ => true) true Try.f6.params.toList args.toList ds p := hA0
  rw [Try.params6] at hA hval
  obtain ⟨v0, vs0, d0, ds0, p0, q0, hargs, rfl, rfl, h0, r0⟩ := trodAll_cons hA
  obtain ⟨v1, vs1, d1, ds1, p1, q1, rfl, rfl, rfl, h1, r1⟩ := trodAll_cons r0
  obtain ⟨v2, vs2, d2, ds2, p2, q2, rfl, rfl, rfl, h2, r2⟩ := trodAll_cons r1
  obtain ⟨v3, vs3, d3, ds3, p3, q3, rfl, rfl, rfl, h3, r3⟩ := trodAll_cons r2
  obtain ⟨rfl, rfl, rfl⟩ := trodAll_nil r3
  obtain rfl : args = #[v0, v1, v2, v3] := by cases args; simp_all
  obtain ⟨rfl, rfl⟩ := trodVars_none hV
  obtain ⟨G0, hl0⟩ := open_rings Try.underlying23 (by kernel_rfl) Try.underlying26 Try.underlying27 Try.underlying2 (by kernel_rfl) (by kernel_rfl) (hval 0 23 v0 rfl rfl) h0
  obtain ⟨L1, hl1, hw1, hs1⟩ := open_list Try.underlying22 Try.underlying2 cells_int64 (hval 1 22 v1 rfl rfl) h1
  obtain ⟨x2, rfl, rfl, rfl, hw2⟩ := open_int Try.underlying2 (hval 2 2 v2 rfl rfl) h2
  obtain ⟨x3, rfl, rfl, rfl, hw3⟩ := open_int Try.underlying2 (hval 3 2 v3 rfl rfl) h3
  clear hA0 hval0 hval
  simp only [List.append_nil] at hW'
  refine (polyTells_walk v0 G0 v1 L1 x2 x3 W hl0 hl1.1 (fun x hx => i64_wf (hw1 x hx)) (i64_wf hw2).1 (i64_wf hw2).2 (i64_wf hw3).1 (i64_wf hw3).2).mono fun e W' ⟨he, hb⟩ => ?_
  subst he
  have hk0 := Below.trod (P := Try.prog) (by kernel_rfl) (by kernel_rfl) (of_decide_eq_true (by kernel_rfl)) h0 hb (fun x hx => by simpa using hW'.lt x (by simp [hx]))
  obtain ⟨k1, hk1⟩ := hs1 W' hb
  refine ⟨_, rfl, _, _, _, [], (p0 ++ (k1 ++ ([] ++ ([] ++ [])))), [], hW', ?_, ?_, ?_, hb.frame _, fun h => by cases h⟩
  · exact trodAll_cons_mk (shutB true) trodAll_mk0
  · exact trodAll_cons_mk hk0 (trodAll_cons_mk hk1 (trodAll_cons_mk (shut_int Try.underlying2 hw2) (trodAll_cons_mk (shut_int Try.underlying2 hw3) trodAll_mk0)))
  · rfl
end Go.Proofs.Ytmfpkphhjfgjbaa.polyTellsLift

namespace Go.Proofs.Ytmfpkphhjfgjbaa
theorem polyTells_holds : Rows.PolyTellsSaid :=
  OpenClaim.holds_of_wide 6 Try.f6 rfl rfl rfl rfl rfl rfl rfl ⟨rfl, rfl, rfl, rfl, rfl⟩ rfl rfl rfl rfl rfl (by kernel_rfl) Try.func6 (by kernel_rfl)
    (of_decide_eq_true (by kernel_rfl)) (by unfold Func.isWrapper; first | (rw [if_pos (by decide +kernel)]; kernel_rfl) | (rw [if_neg (by decide +kernel)]; exact ⟨rfl, rfl⟩))
    (fun os started H enc _ => polyTellsLift.lifted os started H enc)
#print axioms polyTells_holds
end Go.Proofs.Ytmfpkphhjfgjbaa
