/-
  A region that draws its order, walked by hand: one operation taken first; the one that may come up. No condition beyond those written.
-/
import Derived.Test.YtinplpcobmbekaaProg
import Derived.Laws.CopyOwn
import Derived.Below
import Derived.Deep.RegionHeld3
namespace Go.Proofs.Ytinplpcobmbekaa
open Go.RowKit

section
variable {P : Program} {Q : Exit → Act → World → Prop} {md : Region.Mode} {S : World → Prop}
theorem take_atD (i : Nat) {l rest : List Oper} {oi : Oper} {v : Value} {fuel : Nat} {listed : Array Bool} {a : Act} {w : World} (hd : l.drop i = oi :: rest)
    (hs : Region.noSelect l.toArray = true) (hf : Region.free md l.toArray listed i = true) (hr : (Region.ready md l.toArray listed).contains i = true)
    (hQ : ∀ c a w, Q (.panic c) (a.put oi.dst v) w → Q (.panic c) a w) (hy : YieldsIf P l.toArray S oi v a) (hS : S w)
    (h : wpAnyH P md l.toArray Q S fuel (listed.setIfInBounds i true) (a.put oi.dst v) w) : wpAnyH P md l.toArray Q S (fuel + 1) listed a w := by
  have e : l.toArray[i]? = some oi := by
    rw [List.getElem?_toArray, ← List.head?_drop, hd]
    rfl
  exact wpAnyH_take e hs hf hr hQ hy hS h
/-- The one operation that may come up. -/
theorem ready_atD {i : Nat} {l rest : List Oper} {o : Oper} {fuel : Nat} {listed : Array Bool} {a : Act} {w : World} (hd : l.drop i = o :: rest)
    (h : ∀ K' : Act → World → Prop, Shut (∀ a w, S w → (S w → wpAnyH P md l.toArray Q S fuel (listed.setIfInBounds i true) a w) → K' a w) → if Region.wanted o (yielded l.toArray a.tmps) = true then Oper.wp P o a w K' Q else K' (a.put o.dst undef) w) :
    AllReadyH P md l.toArray Q S fuel listed a w [i] := by
  have e : l.toArray[i]? = some o := by
    rw [List.getElem?_toArray, ← List.head?_drop, hd]
    rfl
  exact AllReadyH.cons e h AllReadyH.nil
/-- Two operations may come up. -/
theorem ready_twoD {i j : Nat} {l rest rest2 : List Oper} {o o2 : Oper} {fuel : Nat} {listed : Array Bool} {a : Act} {w : World} (hd : l.drop i = o :: rest) (hd2 : l.drop j = o2 :: rest2)
    (h : ∀ K' : Act → World → Prop, Shut (∀ a w, S w → (S w → wpAnyH P md l.toArray Q S fuel (listed.setIfInBounds i true) a w) → K' a w) → if Region.wanted o (yielded l.toArray a.tmps) = true then Oper.wp P o a w K' Q else K' (a.put o.dst undef) w)
    (h2 : ∀ K' : Act → World → Prop, Shut (∀ a w, S w → (S w → wpAnyH P md l.toArray Q S fuel (listed.setIfInBounds j true) a w) → K' a w) → if Region.wanted o2 (yielded l.toArray a.tmps) = true then Oper.wp P o2 a w K' Q else K' (a.put o2.dst undef) w) :
    AllReadyH P md l.toArray Q S fuel listed a w [i, j] := by
  have e : l.toArray[i]? = some o := by
    rw [List.getElem?_toArray, ← List.head?_drop, hd]
    rfl
  have e2 : l.toArray[j]? = some o2 := by
    rw [List.getElem?_toArray, ← List.head?_drop, hd2]
    rfl
  exact AllReadyH.cons e h (AllReadyH.cons e2 h2 AllReadyH.nil)
/-- From here on more is held. -/
theorem wpAnyH_strongD {ops : Array Oper} {T : World → Prop} (hST : ∀ w, T w → S w) : ∀ (fuel : Nat) (listed : Array Bool) (a : Act) (w : World), wpAnyH P md ops Q T fuel listed a w → wpAnyH P md ops Q S fuel listed a w
  | 0, _, _, _, h => h
  | fuel + 1, _, _, _, h => ⟨h.1, fun i hi => wpOp_mono (fun a' w' h' => ⟨hST _ h'.1, wpAnyH_strongD hST fuel _ a' w' h'.2⟩) (h.2 i hi)⟩
end

end Go.Proofs.Ytinplpcobmbekaa
