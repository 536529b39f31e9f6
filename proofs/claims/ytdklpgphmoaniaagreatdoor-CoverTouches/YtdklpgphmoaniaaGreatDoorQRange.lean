/-
  A range over a function that goes through states which the round's body changes, too (a heap that is put into while it is gone through).
-/
import Derived.Test.YtdklpgphmoaniaaGreatDoorSRowX
import Derived.Test.YtdklpgphmoaniaaGreatDoorProg
import Derived.Handy
import Derived.Deep.QuietTactic
import Derived.WalkSpells
import Derived.WalkLawsBesides
import Derived.BigQuiet
import Derived.PlainAid
import Derived.Deep.RegionWith
import Derived.Laws.BitsAllLaws
import Derived.Sort.LotA
import Derived.Sort.LotB
import Derived.Deep.RegionHeld3
import Derived.WalkSmall
import Derived.Deep.CutRange
import Derived.BigRegion
import Derived.OwnWalk
import Derived.Laws.OwnMore
import Derived.OneCell
import Derived.Laws.CopyOwn
import Derived.Sort.Row
import Derived.Sort.WalkB3
import Derived.Laws.StructEq
import Derived.Deep.AppendLies
import Derived.Deep.RegionLaw
import Derived.RangeFuncFrom
import Derived.RangeFuncCalls
import Derived.RangeFuncLeaves
import Derived.WalkKit
import Derived.OwnWalkIn
import Derived.TacticsInMore
import Derived.LoopNIn
import Derived.LoopIn
import Derived.RegionIn
import Derived.Stop.RegionWithIn
import Derived.Shelf.RegionOpen
namespace Go.Proofs.YtdklpgphmoaniaaGreatDoor

section
open Go.RowKit Go

/-- The loop's two blocks stay. -/
def Two2 (k : Nat) (W W' : World) : Prop := ∀ i, i = k ∨ i = k + 1 → W'.heap[i]? = W.heap[i]?
theorem Two2.trans {k : Nat} {X Y Z : World} (h : Two2 k X Y) (h' : Two2 k Y Z) : Two2 k X Z := fun i hi => (h' i hi).trans (h i hi)
/-- How the body of a round may be left. -/
def rsPost {σ : Type} (k : Nat) (I : σ → World → Prop) (lt : σ → Prop) (Ix : Code → World → Prop) (W : World) : Exit → Act → World → Prop
  | .normal, _, W' => Two2 k W W' ∧ ∃ s', lt s' ∧ I s' W'
  | .ret, _, W' => Two2 k W W' ∧ Ix .ret W'
  | .exit id, _, W' => Two2 k W W' ∧ Ix (.exit id) W'
  | .goto t, _, W' => Two2 k W W' ∧ Ix (.goto t) W'
  | .panic _, _, _ => False
  | .outgrown, _, _ => False
/-- AN ITERATOR's CONTRACT, state by state: Q: what it asks of a state; N: how it moves ahead of a round; E: where it ends; μ: what lessens. -/
def SeqS {α σ : Type} (F : Fence) (n : Nat) (P : Program) (g : Nat) (pb lb : Array Value) (encs : α → Array Value) (Q : σ → World → Prop) (N : σ → α → World → World → Prop) (E : σ → Prop) (μ : σ → Nat) : Prop :=
  ∀ (l : Nat) (J : σ → World → Prop) (Jx : World → Prop), (∀ s W, J s W → Q s W) →
    (∀ s x W W1, J s W → N s x W W1 → YieldAt F (n - 1) P l (encs x) W1 fun e W' => (e = .returned (.bool true) ∧ ∃ s', μ s' < μ s ∧ J s' W') ∨ (e = .returned (.bool false) ∧ Jx W')) →
    ∀ s W, J s W → CallsIn F n P g (pb ++ #[.func (.yield l) #[] #[]] ++ lb) W fun e W' => (∃ v, e = .returned v) ∧ ((∃ s, E s ∧ J s W') ∨ Jx W')
theorem put_grown (W : World) (l : Nat) (o : Obj) : W.grownBy (W.putObj l o) (some l) := grownBy_putObj' W l o

variable {F : Fence} {n : Nat} {P : Program}
theorem rf_state {α σ : Type} {g : Operand} {ps : Array Tmp} {assign body : Code} {Q : Exit → Act → World → Prop} {a : Act} {w : World}
    (hro : F.round = none) (h1 : 1 ≤ n) {gf : Nat} {pb lb : Array Value} (hg : a.eval g = .func (.func gf) pb lb) (hFg : F.fn gf) (eg : ∀ args w, (callFunc gf args).run P w = .ok (.enter gf args) w)
    {encs : α → Array Value} {R : σ → World → Prop} {N : σ → α → World → World → Prop} {E : σ → Prop} {μ : σ → Nat} (hseq : SeqS F (n - 1) P gf pb lb encs R N E μ) (hps : ∀ x, (encs x).size = ps.size)
    (I : σ → World → Prop) (Ix : Code → World → Prop) (hIR : ∀ s W, I s W → R s W) (hI : ∀ s A C, I s A → A.grownBy C (some (w.heap.size + 1)) → w.heap.size + 2 ≤ A.heap.size → I s C) (hIx : ∀ c A C, Ix c A → A.grownBy C (some (w.heap.size + 1)) → w.heap.size + 2 ≤ A.heap.size → Ix c C)
    (s0 : σ) (h0 : ∀ W, Below w.heap.size w W → w.heap.size + 2 ≤ W.heap.size → I s0 W) (hN : ∀ s x A C, I s A → N s x A C → w.heap.size + 2 ≤ A.heap.size → Two2 w.heap.size A C ∧ A.heap.size ≤ C.heap.size)
    (Ax : Nat → α → Act → World → Prop) (hAx : ∀ m x a' A B, w.heap.size + 2 ≤ m → Ax m x a' A → A.grownBy B (some (w.heap.size + 1)) → Ax m x a' B)
    (hassign : ∀ (l : Nat) (x : α) (W : World) (K : Act → World → Prop), w.heap.size + 2 ≤ W.heap.size → (∀ a' W', Ax W.heap.size x a' W' → Below W.heap.size W W' → K a' W') →
      assign.wpIn (F.inRound l) (n - 1 - 1) P (Exit.then K (fun _ _ _ => False)) { tmps := (ps.zip (encs x)).foldl (fun t (p, v) => t.setIfInBounds p v) a.tmps, defers := [] } W)
    (hbody : ∀ (l : Nat) (s : σ) (x : α) (a' : Act) (A C X : World), I s A → w.heap.size + 2 ≤ A.heap.size → N s x A C → C.grownBy X (some (w.heap.size + 1)) → Ax C.heap.size x a' X → body.wpIn (F.inRound l) (n - 1 - 1) P (rsPost w.heap.size I (fun s' => μ s' < μ s) Ix X) a' X)
    (hdone : ∀ (s : σ) (W : World), E s → I s W → w.heap.size + 2 ≤ W.heap.size → W.heap[w.heap.size]? = some (.deferred (some [])) → Q .normal { a with defers := { target := .collected w.heap.size, args := #[] } :: a.defers } W)
    (hstop : ∀ (c : Code) (W : World), Ix c W → w.heap.size + 2 ≤ W.heap.size → W.heap[w.heap.size]? = some (.deferred (some [])) → c.wpIn F n P Q { a with defers := { target := .collected w.heap.size, args := #[] } :: a.defers } W) :
    (Code.rangeFunc g ps assign body).wpIn F n P Q a w := by
  apply wpIn_rangeFunc
  intro fn hfn
  rw [hro]
  -- the loop's record in its states
  obtain ⟨R', hR⟩ : ∃ R' : LoopState → Option Code → Loop, R' = fun st pe => { state := st, pending := pe, fn, tmps := a.tmps, params := ps, assign, body, defers := w.heap.size } := ⟨_, rfl⟩
  have hen := run_enterLoop_outer (P := P) (w := w) fn a.tmps ps assign body
  rw [show ({ state := .ready, pending := none, fn, tmps := a.tmps, params := ps, assign, body, defers := w.heap.size } : Loop) = R' .ready none by rw [hR]] at hen
  have hsz : ((w.alloc (.deferred (some []))).alloc (.loop (R' .ready none))).heap.size = w.heap.size + 2 := by simp
  have hl0 : ((w.alloc (.deferred (some []))).alloc (.loop (R' .ready none))).heap[w.heap.size + 1]? = some (.loop (R' .ready none)) := by
    have := World.alloc_heap_new (w.alloc (.deferred (some []))) (.loop (R' .ready none)); rwa [World.size_alloc] at this
  have hk0 : ((w.alloc (.deferred (some []))).alloc (.loop (R' .ready none))).heap[w.heap.size]? = some (.deferred (some [])) :=
    (Below.heap_alloc _ _ _ (by simp)).trans (World.alloc_heap_new w _)
  have hB0 : Below w.heap.size w ((w.alloc (.deferred (some []))).alloc (.loop (R' .ready none))) := ((Below.refl _ w).alloc (Nat.le_refl _) _).alloc (by simp) _
  generalize (w.alloc (.deferred (some []))).alloc (.loop (R' .ready none)) = W1 at hen hsz hl0 hk0 hB0
  have hI0 : I s0 W1 := h0 _ hB0 (by omega)
  refine ⟨w.heap.size + 1, _, W1, { target := .fn (.func gf) lb, args := pb ++ #[.func (.yield (w.heap.size + 1)) #[] #[]] }, W1, gf, pb ++ #[.func (.yield (w.heap.size + 1)) #[] #[]] ++ lb, W1, hen, ?_, ?_, ?_, fun _ => h1, ?_⟩
  · simp only [resolve, hg]
    simp [go_sem]
  · intro f' hf'; simp [Target.leads] at hf'; subst hf'; exact hFg
  · simp [invoke, go_sem, eg]
  refine (hseq (w.heap.size + 1)
    (fun s W => I s W ∧ W.heap[w.heap.size + 1]? = some (.loop (R' .ready none)) ∧ W.heap[w.heap.size]? = some (.deferred (some [])))
    (fun W => ∃ c, Ix c W ∧ W.heap[w.heap.size + 1]? = some (.loop (R' .done (some c))) ∧ W.heap[w.heap.size]? = some (.deferred (some [])))
    (fun s W h => hIR s W h.1) ?round s0 W1 ⟨hI0, hl0, hk0⟩).mono ?behind
  case round =>
    rintro s x A C ⟨hi, hlA, hkA⟩ hNx
    have hsA : w.heap.size + 2 ≤ A.heap.size := by have := (Array.getElem?_eq_some_iff.1 hlA).1; omega
    have hT := hN s x A C hi hNx hsA
    have hl := (hT.1 (w.heap.size + 1) (.inr rfl)).trans hlA
    have hk := (hT.1 w.heap.size (.inl rfl)).trans hkA
    have hsC : w.heap.size + 2 ≤ C.heap.size := by have := hT.2; omega
    have hy := run_yield (P := P) (args := encs x) hl (by rw [hR]; exact hps x)
    rw [hR] at hy
    refine ⟨fn, _, assign, body, hy, roundIn_of_wpIn hfn (hassign _ x C _ hsC fun a' W hax hba => ?_)⟩
    replace hl := (hba.block _ (by omega)).trans hl
    replace hk := (hba.block _ (by omega)).trans hk
    refine ⟨_, run_beginRound hl (by rw [hR]), ?_⟩
    have hg1 := put_grown W (w.heap.size + 1) (.loop { R' .ready none with state := .busy })
    have hsW : w.heap.size + 2 ≤ W.heap.size := Nat.le_trans hsC hba.size
    have hl1 : (W.putObj (w.heap.size + 1) (.loop { R' .ready none with state := .busy })).heap[w.heap.size + 1]? = some (.loop { R' .ready none with state := .busy }) := World.putObj_heap_same (by omega)
    have hk1 : (W.putObj (w.heap.size + 1) (.loop { R' .ready none with state := .busy })).heap[w.heap.size]? = some (.deferred (some [])) := (World.putObj_heap_other (by omega)).trans hk
    have hsX : w.heap.size + 2 ≤ (W.putObj (w.heap.size + 1) (.loop { R' .ready none with state := .busy })).heap.size := by simp; omega
    generalize W.putObj (w.heap.size + 1) (.loop { R' .ready none with state := .busy }) = X at hg1 hl1 hk1 hsX ⊢
    have hcx : C.grownBy X (some (w.heap.size + 1)) := ⟨hg1.os.trans hba.os, hg1.tape.trans hba.tape, hg1.output.trans hba.output, Nat.le_trans hba.size hg1.size, fun i hi hne => (hg1.block i (Nat.lt_of_lt_of_le hi hba.size) hne).trans (hba.block i hi)⟩
    refine wpIn_mono (hbody _ s x a' A C X hi hsA hNx hcx (hAx _ _ _ _ _ hsC hax hg1)) ?_
    -- how each way out ends the round
    have fin : ∀ (j : Option Code) (Y : World), Two2 w.heap.size X Y →
        (Instr.endRound (w.heap.size + 1) j).run P Y = .ok (.bool j.isNone) (Y.putObj (w.heap.size + 1) (.loop (R' (if j.isNone then .ready else .done) j))) ∧
        Y.grownBy (Y.putObj (w.heap.size + 1) (.loop (R' (if j.isNone then .ready else .done) j))) (some (w.heap.size + 1)) ∧ w.heap.size + 2 ≤ Y.heap.size ∧
        (Y.putObj (w.heap.size + 1) (.loop (R' (if j.isNone then .ready else .done) j))).heap[w.heap.size + 1]? = some (.loop (R' (if j.isNone then .ready else .done) j)) ∧
        (Y.putObj (w.heap.size + 1) (.loop (R' (if j.isNone then .ready else .done) j))).heap[w.heap.size]? = some (.deferred (some [])) := by
      intro j Y hY
      have hlY := (hY (w.heap.size + 1) (.inr rfl)).trans hl1
      have hlt : w.heap.size + 1 < Y.heap.size := (Array.getElem?_eq_some_iff.1 hlY).1
      have hr := run_endRound (P := P) j hlY
      rw [hR] at hr ⊢
      exact ⟨hr, put_grown Y _ _, by omega, World.putObj_heap_same hlt, (World.putObj_heap_other (by omega)).trans ((hY w.heap.size (.inl rfl)).trans hk1)⟩
    rintro e a3 Y hp
    cases e with
    | normal =>
      obtain ⟨hTY, s', hlt, hiY⟩ := hp
      obtain ⟨hr, hb2, hs2, hl2, hk2⟩ := fin none Y hTY
      exact ⟨_, _, hr, .inl ⟨rfl, s', hlt, hI _ _ _ hiY hb2 hs2, hl2, hk2⟩⟩
    | ret =>
      obtain ⟨hTY, hiY⟩ := hp
      obtain ⟨hr, hb2, hs2, hl2, hk2⟩ := fin (some .ret) Y hTY
      exact ⟨_, _, hr, .inr ⟨rfl, .ret, hIx _ _ _ hiY hb2 hs2, hl2, hk2⟩⟩
    | exit id =>
      obtain ⟨hTY, hiY⟩ := hp
      obtain ⟨hr, hb2, hs2, hl2, hk2⟩ := fin (some (.exit id)) Y hTY
      exact ⟨_, _, hr, .inr ⟨rfl, .exit id, hIx _ _ _ hiY hb2 hs2, hl2, hk2⟩⟩
    | goto t =>
      obtain ⟨hTY, hiY⟩ := hp
      obtain ⟨hr, hb2, hs2, hl2, hk2⟩ := fin (some (.goto t)) Y hTY
      exact ⟨_, _, hr, .inr ⟨rfl, .goto t, hIx _ _ _ hiY hb2 hs2, hl2, hk2⟩⟩
    | panic ch => exact hp.elim
    | outgrown => exact hp.elim
  case behind =>
    rintro e Y ⟨⟨v, rfl⟩, (⟨s, hE, hi, hl, hk⟩ | ⟨c, hi, hl, hk⟩)⟩
    · have hlt : w.heap.size + 1 < Y.heap.size := (Array.getElem?_eq_some_iff.1 hl).1
      refine ⟨none, _, by have := run_endLoop (P := P) hl (by rw [hR]; simp); rw [hR] at this; exact this, ?_⟩
      exact hdone s _ hE (hI _ _ _ hi (put_grown Y _ _) (by omega)) (by simp; omega) ((World.putObj_heap_other (by omega)).trans hk)
    · have hlt : w.heap.size + 1 < Y.heap.size := (Array.getElem?_eq_some_iff.1 hl).1
      refine ⟨some c, _, by have := run_endLoop (P := P) hl (by rw [hR]; simp); rw [hR] at this; exact this, ?_⟩
      exact hstop c _ (hIx c _ _ hi (put_grown Y _ _) (by omega)) (by simp; omega) ((World.putObj_heap_other (by omega)).trans hk)
/-- The mark of a loop that is done, taken up where the call is left. -/
theorem mark_leaves {fn : Func} {tmps : Array Value} {S : Ending → World → Prop} {D : Nat} {W : World} (hd : W.heap[D]? = some (.deferred (some [])))
    (h0 : LeavesInM F n P fn tmps S [] .returning (W.putObj D (.deferred none))) : LeavesInM F n P fn tmps S [{ target := .collected D, args := #[] }] .returning W :=
  ⟨by simp, .inl ⟨D, _, rfl, run_takeDeferred hd, h0⟩⟩
end

end Go.Proofs.YtdklpgphmoaniaaGreatDoor
