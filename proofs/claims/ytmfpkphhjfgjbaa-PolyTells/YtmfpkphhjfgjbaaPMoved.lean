/-
  Plain facts on two rings, and on a ring that is moved: what lies in both, in one twice; where rings that numbers make lie.
-/
import Derived.Test.YtmfpkphhjfgjbaaPLit
import Derived.Laws.BitsAllLaws
import Derived.Handy
import Derived.Deep.QuietTactic
import Derived.Test.YtmfpkphhjfgjbaaProg
import Derived.WalkSpells
import Derived.WalkLawsBesides
import Derived.BigQuiet
import Derived.PlainAid
import Derived.Deep.RegionWith
import Derived.Deep.RegionHeld3
import Derived.WalkSmall
import Derived.Deep.CutRange
import Derived.BigRegion
import Derived.OwnWalk
import Derived.Laws.OwnMore
import Derived.OneCell
import Derived.Laws.CopyOwn
import Derived.Sort.Row
import Derived.ChangeSlices
import Derived.OpenShut
import Derived.Laws.AppendOwn
import Derived.Laws.AppendOwnNone
import Derived.BigFrame
import Derived.Deep.AppendLies
import Derived.Deep.RegionLaw
import Derived.RangeFuncFrom
import Derived.RangeFuncCalls
import Derived.RangeFuncLeaves
import Derived.WalkKit
import Derived.OwnWalkIn
import Derived.TacticsInMore
import Derived.LoopNIn
import Derived.LoopIn
import Derived.RegionIn
import Derived.Stop.RegionWithIn
import Derived.Deep.LoopGhost
namespace Go.Proofs.Ytmfpkphhjfgjbaa
open Go.RowKit

theorem mask_mod (x : Int) (k : Nat) (hk : k ≤ 32) (m n z : Int) (hm : (((2 ^ k - 1 : Nat)) : Int) = m) (hn : (((2 ^ k : Nat)) : Int) = n) (h0 : 0 < n) (hz : 0 < z) : ∃ U u : Int, bits .and .i64 x m = U ∧ 0 ≤ U ∧ U < n ∧ U % z = u ∧ U.tmod z = u ∧ 0 ≤ u ∧ u < z := by
  have h := i64_mask x k (by omega)
  rw [hm, hn] at h
  have h1 := Int.emod_nonneg x (b := n) (by omega)
  refine ⟨_, _, h, h1, Int.emod_lt_of_pos _ h0, rfl, Int.tmod_eq_emod_of_nonneg h1, Int.emod_nonneg _ (by omega), Int.emod_lt_of_pos _ hz⟩

theorem prop_bool9 (P : Prop) : ∃ b : Bool, b = true ↔ P := by
  by_cases h : P
  · exact ⟨true, by simp [h]⟩
  · exact ⟨false, by simp [h]⟩

theorem okay_two {L M : List (Int × Int)} (h1 : 3 ≤ L.length) (h2 : 3 ≤ M.length) (h3 : L.length + M.length ≤ 500) (hL : ∀ p ∈ L, InWo p) (hM : ∀ p ∈ M, InWo p) : Okay [L, M] := by
  refine okay_iff.2 ⟨by simp, by show L.length + (M.length + 0) ≤ 500; omega, by simp, fun K hK => ?_, fun K hK => ?_⟩
  · simp only [List.mem_cons, List.not_mem_nil, or_false] at hK
    rcases hK with rfl | rfl <;> assumption
  · simp only [List.mem_cons, List.not_mem_nil, or_false] at hK
    rcases hK with rfl | rfl <;> assumption

theorem onG_two (L M : List (Int × Int)) (x y : Int) : onG [L, M] x y = onN L x y + onN M x y := by show onN L x y + (onN M x y + 0) = _; omega

theorem crG_two (L M : List (Int × Int)) (x y : Int) : crG [L, M] x y = crN L x y + crN M x y := by show crN L x y + (crN M x y + 0) = _; omega

/-- Of two rings, one of which has nothing there. -/
theorem in_both {L M : List (Int × Int)} {x y : Int} (h1 : 3 ≤ L.length) (h2 : 3 ≤ M.length) (h3 : L.length + M.length ≤ 500) (hL : ∀ p ∈ L, InWo p) (hM : ∀ p ∈ M, InWo p) (hf : ¬ Far x y) (h : (onN L x y = 0 ∧ crN L x y % 2 = 0) ∨ (onN M x y = 0 ∧ crN M x y % 2 = 0)) :
    InT [L, M] x y ↔ InT [L] x y ∨ InT [M] x y := by
  rw [in_one h1 (by omega) hL hf, in_one h2 (by omega) hM hf]
  have e : InT [L, M] x y ↔ 0 < onN L x y + onN M x y ∨ (crN L x y + crN M x y) % 2 = 1 := by
    unfold InT
    rw [onG_two, crG_two]
    exact ⟨fun h => h.2.2, fun k => ⟨okay_two h1 h2 h3 hL hM, hf, k⟩⟩
  rw [e]
  have a1 := onN_nonneg L x y
  have a2 := onN_nonneg M x y
  omega

theorem in_twice {L : List (Int × Int)} {x y : Int} (h1 : 3 ≤ L.length) (h3 : L.length ≤ 250) (hL : ∀ p ∈ L, InWo p) (hf : ¬ Far x y) : InT [L, L] x y ↔ OnT [L] x y := by
  rw [on_one h1 (by omega) hL hf]
  have e : InT [L, L] x y ↔ 0 < onN L x y + onN L x y ∨ (crN L x y + crN L x y) % 2 = 1 := by
    unfold InT
    rw [onG_two, crG_two]
    exact ⟨fun h => h.2.2, fun k => ⟨okay_two h1 h1 (by omega) hL hL, hf, k⟩⟩
  rw [e]
  omega

theorem in_moved {L : List (Int × Int)} {x y dx dy : Int} (h1 : 3 ≤ L.length) (h3 : L.length ≤ 500) (hL : ∀ p ∈ L, InWo p) (hM : ∀ p ∈ L.map (sh dx dy), InWo p) (hf : ¬ Far x y) (hf2 : ¬ Far (x + dx) (y + dy)) : InT [L.map (sh dx dy)] (x + dx) (y + dy) ↔ InT [L] x y := by
  rw [in_one h1 h3 hL hf, in_one (by rw [List.length_map]; exact h1) (by rw [List.length_map]; exact h3) hM hf2, onN_sh, crN_sh]

theorem map_take {α β : Type} (f : α → β) (L : List α) {i : Nat} (h : i < L.length) : (L.take (i + 1)).map f = (L.take i).map f ++ [f L[i]] := by
  rw [List.take_succ_eq_append_getElem h, List.map_append]
  rfl

theorem size_two (w : World) (a b : Obj) : ((w.alloc a).alloc b).heap.size = w.heap.size + 1 + 1 := by simp

theorem size_three (w : World) (a b c : Obj) : (((w.alloc a).alloc b).alloc c).heap.size = w.heap.size + 1 + 1 + 1 := by simp

/-- Four lists of rings, laid one behind the other. -/
theorem lit_four (w : World) (L M : List (Int × Int)) (s t : Value) (e : TypeId) (h : RingL w s L) (k : RingL w t M) :
    RingsL ((((w.alloc (.cells #[s] e)).alloc (.cells #[t] e)).alloc (.cells #[s, t] e)).alloc (.cells #[s, s] e)) (.slice (some ⟨w.heap.size, 0, none⟩) 1 1) [L] ∧
    RingsL ((((w.alloc (.cells #[s] e)).alloc (.cells #[t] e)).alloc (.cells #[s, t] e)).alloc (.cells #[s, s] e)) (.slice (some ⟨w.heap.size + 1, 0, none⟩) 1 1) [M] ∧
    RingsL ((((w.alloc (.cells #[s] e)).alloc (.cells #[t] e)).alloc (.cells #[s, t] e)).alloc (.cells #[s, s] e)) (.slice (some ⟨w.heap.size + 1 + 1, 0, none⟩) 2 2) [L, M] ∧
    RingsL ((((w.alloc (.cells #[s] e)).alloc (.cells #[t] e)).alloc (.cells #[s, t] e)).alloc (.cells #[s, s] e)) (.slice (some ⟨w.heap.size + 1 + 1 + 1, 0, none⟩) 2 2) [L, L] ∧
    Below w.heap.size w ((((w.alloc (.cells #[s] e)).alloc (.cells #[t] e)).alloc (.cells #[s, t] e)).alloc (.cells #[s, s] e)) := by
  have b1 := allocB w (.cells #[s] e)
  have b2 := allocB (w.alloc (.cells #[s] e)) (.cells #[t] e)
  have b3 := allocB ((w.alloc (.cells #[s] e)).alloc (.cells #[t] e)) (.cells #[s, t] e)
  have b4 := allocB (((w.alloc (.cells #[s] e)).alloc (.cells #[t] e)).alloc (.cells #[s, t] e)) (.cells #[s, s] e)
  have r1 := lit_rings1 w L s e h
  have r2 := lit_rings1 _ M t e (k.keep b1)
  have r3 := lit_rings2 _ L M s t e (h.keep (belowT b1 b2)) (k.keep (belowT b1 b2))
  have r4 := lit_rings2 _ L L s s e (h.keep (belowT (belowT b1 b2) b3)) (h.keep (belowT (belowT b1 b2) b3))
  rw [size_one] at r2
  rw [size_two] at r3
  rw [size_three] at r4
  exact ⟨r1.keep (belowT (belowT b2 b3) b4), r2.keep (belowT b3 b4), r3.keep b4, r4, belowT (belowT (belowT b1 b2) b3) b4⟩

end Go.Proofs.Ytmfpkphhjfgjbaa
