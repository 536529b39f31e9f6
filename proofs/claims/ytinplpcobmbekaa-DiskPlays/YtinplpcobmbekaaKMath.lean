/-
  Facts on bytes: a Crash keeps the first so many of the bytes that wait, and what was written besides is as it lasted.
-/
import Derived.Test.YtinplpcobmbekaaKRel
import Derived.Laws.CopyOwn
import Derived.Below
import Derived.Test.YtinplpcobmbekaaProg
import Derived.Handy
import Derived.Deep.QuietTactic
import Derived.WalkSpells
import Derived.WalkLawsBesides
import Derived.BigQuiet
import Derived.PlainAid
import Derived.Deep.RegionWith
import Derived.Laws.BitsAllLaws
import Derived.OwnWalk
import Derived.Laws.OwnMore
import Derived.Deep.RegionHeld3
import Derived.WalkSmall
import Derived.Deep.CutRange
import Derived.BigRegion
import Derived.OneCell
import Derived.Sort.Row
import Derived.ChangeSlices
import Derived.OpenShut
import Derived.Deep.AppendLies
import Derived.Laws.BytesArg
import Derived.Laws.CopyRow
import Derived.Laws.IdiomCopy
import Derived.Deep.OwnRows
import Derived.Deep.RegionLaw
namespace Go.Proofs.Ytinplpcobmbekaa
open Go.RowKit

/-- Writes undone, one behind the other. -/
def undoL (M : List Int) (N : List Int) (ws : List Wt) : List Int := ws.foldl (fun N x => splice N x.at_ ((M.drop x.at_).take x.bs.length)) N

theorem undo_next {M N : List Int} {ws : List Wt} {i : Nat} (h : i < ws.length) : undoL M N (ws.take (i + 1)) = splice (undoL M N (ws.take i)) ws[i].at_ ((M.drop ws[i].at_).take ws[i].bs.length) := by
  unfold undoL
  rw [List.take_succ_eq_append_getElem h, List.foldl_append]
  rfl

theorem splice_get {N b : List Int} {a : Nat} (h : a + b.length ≤ N.length) (i : Nat) : (splice N a b)[i]? = if a ≤ i ∧ i < a + b.length then b[i - a]? else N[i]? := by
  unfold splice
  have hl : (N.take a).length = a := by rw [List.length_take]; omega
  by_cases h1 : i < a
  · rw [if_neg (by omega), List.getElem?_append_left (by omega), List.getElem?_take_of_lt h1]
  · rw [List.getElem?_append_right (by omega), hl]
    by_cases h2 : i < a + b.length
    · rw [if_pos ⟨by omega, h2⟩, List.getElem?_append_left (by omega)]
    · rw [if_neg (by omega), List.getElem?_append_right (by omega), List.getElem?_drop]
      congr 1
      omega

theorem cut_lenD {M : List Int} {a k : Nat} (h : a + k ≤ M.length) : ((M.drop a).take k).length = k := by rw [List.length_take, List.length_drop]; omega

theorem undo_get {M : List Int} (i : Nat) : ∀ (ws : List Wt) (N : List Int), N.length = M.length → (∀ x ∈ ws, x.at_ + x.bs.length ≤ M.length) → (undoL M N ws).length = M.length ∧
    ((∃ x ∈ ws, x.at_ ≤ i ∧ i < x.at_ + x.bs.length) → (undoL M N ws)[i]? = M[i]?) ∧ ((∀ x ∈ ws, ¬ (x.at_ ≤ i ∧ i < x.at_ + x.bs.length)) → (undoL M N ws)[i]? = N[i]?) ∧ (N[i]? = M[i]? → (undoL M N ws)[i]? = M[i]?) := by
  intro ws
  induction ws with
  | nil => intro N hN _; exact ⟨hN, fun ⟨x, hx, _⟩ => by simp at hx, fun _ => rfl, fun h => h⟩
  | cons x ws ih =>
    intro N hN hr
    have hx := hr x (by simp)
    have hc := cut_lenD hx
    have hs := splice_get (N := N) (b := (M.drop x.at_).take x.bs.length) (a := x.at_) (by rw [hc]; omega) i
    have e : undoL M N (x :: ws) = undoL M (splice N x.at_ ((M.drop x.at_).take x.bs.length)) ws := rfl
    obtain ⟨h1, h2, h3, h4⟩ := ih (splice N x.at_ ((M.drop x.at_).take x.bs.length)) (by rw [splice_len (by rw [hc]; omega), hN]) fun y hy => hr y (by simp [hy])
    rw [hc] at hs
    have hin : x.at_ ≤ i ∧ i < x.at_ + x.bs.length → (splice N x.at_ ((M.drop x.at_).take x.bs.length))[i]? = M[i]? := fun hi => by
      rw [hs, if_pos hi, List.getElem?_take_of_lt (by omega), List.getElem?_drop]
      congr 1
      omega
    rw [e]
    refine ⟨h1, fun ⟨y, hy, hi⟩ => ?_, fun hn => ?_, fun hq => ?_⟩
    · rcases List.mem_cons.1 hy with rfl | hy
      · exact h4 (hin hi)
      · exact h2 ⟨y, hy, hi⟩
    · rw [h3 fun y hy => hn y (by simp [hy]), hs, if_neg (hn x (by simp))]
    · refine h4 ?_
      by_cases hi : x.at_ ≤ i ∧ i < x.at_ + x.bs.length
      · exact hin hi
      · rw [hs, if_neg hi, hq]

theorem puts_far (i : Nat) : ∀ (ps : List (Int × Int)) (L : List Int), (∀ p ∈ ps, p.1.toNat ≠ i) → (puts L ps)[i]? = L[i]? := by
  intro ps
  induction ps with
  | nil => intro L _; rfl
  | cons p ps ih =>
    intro L h
    show (puts (put1 L p) ps)[i]? = _
    rw [ih (put1 L p) fun q hq => h q (by simp [hq])]
    exact List.getElem?_set_ne (h p (by simp))

theorem flatW_mem {ws : List Wt} {p : Int × Int} (h : p ∈ flatW ws) : ∃ x ∈ ws, (x.at_ : Int) ≤ p.1 ∧ p.1 < ((x.at_ + x.bs.length : Nat) : Int) := by
  obtain ⟨x, hx, hp⟩ := List.mem_flatMap.1 h
  have := zipAt_mem hp
  exact ⟨x, hx, this.1, this.2.1⟩

/-- All that waited is undone: what is left is what a Crash keeps. -/
theorem undo_all {M0 : List Int} {ws : List Wt} (hr : ∀ x ∈ ws, x.at_ + x.bs.length ≤ M0.length) (k : Nat) : undoL (puts M0 ((flatW ws).take k)) (puts M0 (flatW ws)) ws = puts M0 ((flatW ws).take k) := by
  apply List.ext_getElem?
  intro i
  have hl := puts_len ((flatW ws).take k) M0
  obtain ⟨-, h2, h3, -⟩ := undo_get (M := puts M0 ((flatW ws).take k)) i ws (puts M0 (flatW ws)) (by rw [puts_len, hl]) (by rw [hl]; exact hr)
  by_cases hc : ∃ x ∈ ws, x.at_ ≤ i ∧ i < x.at_ + x.bs.length
  · exact h2 hc
  · have hn : ∀ x ∈ ws, ¬ (x.at_ ≤ i ∧ i < x.at_ + x.bs.length) := fun x hx hi => hc ⟨x, hx, hi⟩
    have far : ∀ p ∈ flatW ws, p.1.toNat ≠ i := fun p hp e => by
      obtain ⟨x, hx, a, b⟩ := flatW_mem hp
      exact hn x hx ⟨by omega, by omega⟩
    rw [h3 hn, puts_far i _ _ far, puts_far i _ _ fun p hp => far p (List.mem_of_mem_take hp)]

/-- The writes done so far made to last. -/
theorem last_next {M0 : List Int} {ws : List Wt} {i : Nat} (h : i < ws.length) (hr : ∀ x ∈ ws, x.at_ + x.bs.length ≤ M0.length) : splice (puts M0 (flatW (ws.take i))) ws[i].at_ ws[i].bs = puts M0 (flatW (ws.take (i + 1))) := by
  rw [flatW_next h, puts_app, puts_zip _ _ _ (by rw [puts_len]; exact hr _ (List.getElem_mem h))]

/-- The same, of the first so many bytes alone. -/
theorem keep_next {M0 : List Int} {ws : List Wt} {i k : Nat} (h : i < ws.length) (hr : ∀ x ∈ ws, x.at_ + x.bs.length ≤ M0.length) : splice (puts M0 ((flatW (ws.take i)).take k)) ws[i].at_ (ws[i].bs.take (k - (flatW (ws.take i)).length)) = puts M0 ((flatW (ws.take (i + 1))).take k) := by
  rw [flatW_next h, kept_next (hr _ (List.getElem_mem h))]

end Go.Proofs.Ytinplpcobmbekaa
