/-
  A range over a function whose loop variable lies in a block of its own; the edges of a ring, and of rings one behind the other, as package poly hands them on.
-/
import Derived.RangeFuncFrom
import Derived.RangeFuncCalls
import Derived.RangeFuncLeaves
import Derived.Laws.BitsAllLaws
import Derived.Handy
import Derived.Deep.QuietTactic
import Derived.Test.YtmfpkphhjfgjbabProg
import Derived.WalkSpells
import Derived.WalkLawsBesides
import Derived.BigQuiet
import Derived.PlainAid
import Derived.Deep.RegionWith
import Derived.Deep.RegionHeld3
import Derived.WalkSmall
import Derived.Deep.CutRange
import Derived.BigRegion
import Derived.OwnWalk
import Derived.Laws.OwnMore
import Derived.OneCell
import Derived.Laws.CopyOwn
import Derived.Sort.Row
import Derived.Shelf.RegionOpen
import Derived.WalkKit
import Derived.OwnWalkIn
import Derived.TacticsInMore
import Derived.LoopNIn
import Derived.LoopIn
import Derived.RegionIn
import Derived.Stop.RegionWithIn
namespace Go.Proofs.Ytmfpkphhjfgjbab

section
open Go.RowKit Go

/-- What speaks of the memory ahead of B alone. -/
def Firm {β : Type} (B : Nat) (J : β → World → Prop) : Prop := ∀ s A C, J s A → Below B A C → J s C
/-- What was made from B on stays. -/
structure High (B : Nat) (W W' : World) : Prop where
  size : W.heap.size ≤ W'.heap.size
  same : ∀ k o, B ≤ k → W.heap[k]? = some o → W'.heap[k]? = some o
theorem High.refl (B : Nat) (W : World) : High B W W := ⟨Nat.le_refl _, fun _ _ _ h => h⟩
theorem High.trans {B : Nat} {X Y Z : World} (h : High B X Y) (k : High B Y Z) : High B X Z := ⟨Nat.le_trans h.size k.size, fun i o hi ho => k.same i o hi (h.same i o hi ho)⟩
theorem High.mono {B C : Nat} {X Y : World} (h : High B X Y) (hc : B ≤ C) : High C X Y := ⟨h.size, fun k o hk => h.same k o (Nat.le_trans hc hk)⟩
theorem High.of_below {B : Nat} {W W' : World} (h : Below W.heap.size W W') : High B W W' :=
  ⟨h.size, fun k o _ hk => by rw [h.block k (Array.getElem?_eq_some_iff.1 hk).1]; exact hk⟩
theorem High.setCell {B : Nat} {X W : World} (h : High B X W) {p : Addr} (hp : p.block < B) (v : Value) : High B X (W.setCell p v) :=
  h.trans ⟨by simp, fun k o hk ho => by rw [heap_setCell_other _ _ _ _ (by omega)]; exact ho⟩
theorem High.cell {B : Nat} {W W' : World} (h : High B W W') {p : Addr} {v : Value} (hp : B ≤ p.block) (hc : W.cell? p = some v) : W'.cell? p = some v := by
  have hlt := World.block_lt_of_cell? _ _ hc
  have hb : W'.heap[p.block]? = W.heap[p.block]? := by
    rw [Array.getElem?_eq_getElem hlt]
    exact h.same p.block _ hp (Array.getElem?_eq_getElem hlt)
  rw [World.cell?_of_block hb]; exact hc
theorem High.frozen {B : Nat} {W W' : World} (h : High B W W') {p : Addr} (hp : B ≤ p.block) (hlt : p.block < W.heap.size) : W'.frozen? p = W.frozen? p := by
  have hb : W'.heap[p.block]? = W.heap[p.block]? := by
    rw [Array.getElem?_eq_getElem hlt]
    exact h.same p.block _ hp (Array.getElem?_eq_getElem hlt)
  exact World.frozen?_of_block hb
/-- A block that is turned, at or beyond B. -/
theorem below_put {B : Nat} (W : World) (l : Nat) (o : Obj) (hB : B ≤ W.heap.size) (hl : B ≤ l) : Below B W (W.putObj l o) :=
  (Below.refl B W).grown (grownBy_putObj' W l o) hB (fun k e => by cases e; exact hl)

/-- AN ITERATOR's CONTRACT: n₀: the memory that a round leaves as it is. -/
def SeqG {α : Type} (F : Fence) (n : Nat) (P : Program) (g : Nat) (pb lb : Array Value) (encs : α → Array Value) (n₀ : Nat) (S Sp : List α → Prop) (w : World) : Prop :=
  ∀ (l : Nat) (J Jx : List α → World → Prop) (W : World), Below w.heap.size w W → Firm W.heap.size J → Firm W.heap.size Jx →
    (∀ pre x W1, J pre W1 → W.heap.size ≤ W1.heap.size → YieldAt F (n - 1) P l (encs x) W1 fun e W' =>
      (e = .returned (.bool true) ∧ J (pre ++ [x]) W' ∧ Below n₀ W1 W' ∧ High W.heap.size W1 W') ∨ (e = .returned (.bool false) ∧ Jx (pre ++ [x]) W' ∧ High W.heap.size W1 W')) →
    J [] W →
    CallsIn F n P g (pb ++ #[.func (.yield l) #[] #[]] ++ lb) W fun e W' => (∃ v, e = .returned v) ∧ ((∃ xs, S xs ∧ J xs W') ∨ (∃ pre, Sp pre ∧ Jx pre W'))
theorem Firm.mono {β : Type} {B C : Nat} {J : β → World → Prop} (h : Firm B J) (hc : B ≤ C) : Firm C J := fun s X Y hs hb => h s X Y hs (hb.mono hc)
/-- Where no depth is asked, one serves as another, in a round as anywhere. -/
theorem yield_any {m : Nat} (m' : Nat) (l₂ : Nat) {P : Program} {l : Nat} {args : Array Value} {W : World} {R : Ending → World → Prop} (h : YieldAt Fence.wide m P l args W R) : YieldAt (Fence.wide.inRound l₂) m' P l args W R := by
  obtain ⟨fn, tmps, assign, body, hy, hR⟩ := h
  exact ⟨fn, tmps, assign, body, hy, hR.1, fun c cs _ => hR.2 c cs (room_wide _)⟩

/-- How the body of a round may be left. -/
def rfPost {α : Type} (n₀ B : Nat) (I : List α → World → Prop) (Ix : Code → List α → World → Prop) (xs : List α) (W : World) : Exit → Act → World → Prop
  | .normal, _, W' => Below n₀ W W' ∧ High B W W' ∧ I xs W'
  | .ret, _, W' => High B W W' ∧ Ix .ret xs W'
  | .exit id, _, W' => High B W W' ∧ Ix (.exit id) xs W'
  | .goto t, _, W' => High B W W' ∧ Ix (.goto t) xs W'
  | .panic _, _, _ => False
  | .outgrown, _, _ => False

variable {F : Fence} {n : Nat} {P : Program}

/-- What a cell held it holds. -/
def CellsOn (A B : World) : Prop := ∀ p v, A.cell? p = some v → B.cell? p = some v
theorem CellsOn.refl (A : World) : CellsOn A A := fun _ _ h => h
theorem cells_put {W : World} {l : Nat} {r : Loop} (h : W.heap[l]? = some (.loop r)) (o : Obj) : CellsOn W (W.putObj l o) := fun p v hc => by
  have hne : p.block ≠ l := by
    intro e
    unfold World.cell? at hc
    rw [e, h] at hc
    simp at hc
  rw [World.cell?_of_block (World.putObj_heap_other (by omega))]
  exact hc
theorem rf_law {α : Type} {g : Operand} {ps : Array Tmp} {assign body : Code} {Q : Exit → Act → World → Prop} {a : Act} {w : World}
    (hro : F.round = none) (h1 : 1 ≤ n) {gf : Nat} {pb lb : Array Value} (hg : a.eval g = .func (.func gf) pb lb) (hFg : F.fn gf) (eg : ∀ args w, (callFunc gf args).run P w = .ok (.enter gf args) w)
    {encs : α → Array Value} {n₀ : Nat} {S Sp : List α → Prop} (hseq : SeqG F (n - 1) P gf pb lb encs n₀ S Sp w) (hn : n₀ ≤ w.heap.size) (hps : ∀ x, (encs x).size = ps.size)
    (I : List α → World → Prop) (Ix : Code → List α → World → Prop) (hI : Firm w.heap.size I) (hIx : ∀ c, Firm w.heap.size (Ix c)) (h0 : I [] w) (Ax : α → Act → World → Prop) (hAx : ∀ x a' A B, Ax x a' A → CellsOn A B → Ax x a' B)
    (hassign : ∀ (l : Nat) (x : α) (W : World) (K : Act → World → Prop), w.heap.size ≤ W.heap.size → (∀ a' W', Ax x a' W' → Below W.heap.size W W' → K a' W') →
      assign.wpIn (F.inRound l) (n - 1 - 1) P (Exit.then K (fun _ _ _ => False)) { tmps := (ps.zip (encs x)).foldl (fun t (p, v) => t.setIfInBounds p v) a.tmps, defers := [] } W)
    (hbody : ∀ (l : Nat) (pre : List α) (x : α) (a' : Act) (W : World), I pre W → Ax x a' W → w.heap.size ≤ W.heap.size → body.wpIn (F.inRound l) (n - 1 - 1) P (rfPost n₀ w.heap.size I Ix (pre ++ [x]) W) a' W)
    (hdone : ∀ (D : Nat) (xs : List α) (W : World), w.heap.size ≤ D → S xs → I xs W → W.heap[D]? = some (.deferred (some [])) → Q .normal { a with defers := { target := .collected D, args := #[] } :: a.defers } W)
    (hstop : ∀ (D : Nat) (c : Code) (pre : List α) (W : World), w.heap.size ≤ D → Sp pre → Ix c pre W → W.heap[D]? = some (.deferred (some [])) → c.wpIn F n P Q { a with defers := { target := .collected D, args := #[] } :: a.defers } W) :
    (Code.rangeFunc g ps assign body).wpIn F n P Q a w := by
  apply wpIn_rangeFunc
  intro fn hfn
  rw [hro]
  -- the loop's record in its states
  obtain ⟨R, hR⟩ : ∃ R : LoopState → Option Code → Loop, R = fun st pe => { state := st, pending := pe, fn, tmps := a.tmps, params := ps, assign, body, defers := w.heap.size } := ⟨_, rfl⟩
  have hen := run_enterLoop_outer (P := P) (w := w) fn a.tmps ps assign body
  rw [show ({ state := .ready, pending := none, fn, tmps := a.tmps, params := ps, assign, body, defers := w.heap.size } : Loop) = R .ready none by rw [hR]] at hen
  have hsz : ((w.alloc (.deferred (some []))).alloc (.loop (R .ready none))).heap.size = w.heap.size + 2 := by simp
  have hl0 : ((w.alloc (.deferred (some []))).alloc (.loop (R .ready none))).heap[w.heap.size + 1]? = some (.loop (R .ready none)) := by
    have := World.alloc_heap_new (w.alloc (.deferred (some []))) (.loop (R .ready none)); rwa [World.size_alloc] at this
  have hk0 : ((w.alloc (.deferred (some []))).alloc (.loop (R .ready none))).heap[w.heap.size]? = some (.deferred (some [])) :=
    (Below.heap_alloc _ _ _ (by simp)).trans (World.alloc_heap_new w _)
  have hB0 : Below w.heap.size w ((w.alloc (.deferred (some []))).alloc (.loop (R .ready none))) := ((Below.refl _ w).alloc (Nat.le_refl _) _).alloc (by simp) _
  generalize (w.alloc (.deferred (some []))).alloc (.loop (R .ready none)) = W1 at hen hsz hl0 hk0 hB0
  have hI0 : I [] W1 := hI _ _ _ h0 hB0
  -- a turn of the record keeps what the invariant speaks of
  have hturn : ∀ (W : World) (o : Obj), w.heap.size + 1 < W.heap.size → Below w.heap.size W (W.putObj (w.heap.size + 1) o) := fun W o hW => below_put W _ o (by omega) (by omega)
  refine ⟨w.heap.size + 1, _, W1, { target := .fn (.func gf) lb, args := pb ++ #[.func (.yield (w.heap.size + 1)) #[] #[]] }, W1, gf, pb ++ #[.func (.yield (w.heap.size + 1)) #[] #[]] ++ lb, W1, hen, ?_, ?_, ?_, fun _ => h1, ?_⟩
  · simp only [resolve, hg]
    simp [go_sem]
  · intro f' hf'; simp [Target.leads] at hf'; subst hf'; exact hFg
  · simp [invoke, go_sem, eg]
  refine (hseq (w.heap.size + 1)
    (fun pre W => I pre W ∧ W.heap[w.heap.size + 1]? = some (.loop (R .ready none)) ∧ W.heap[w.heap.size]? = some (.deferred (some [])))
    (fun pre W => ∃ c, Ix c pre W ∧ W.heap[w.heap.size + 1]? = some (.loop (R .done (some c))) ∧ W.heap[w.heap.size]? = some (.deferred (some [])))
    W1 hB0
    (fun s A C h hb => ⟨hI s A C h.1 (hb.mono (by omega)), (hb.block _ (by omega)).trans h.2.1, (hb.block _ (by omega)).trans h.2.2⟩)
    (fun s A C h hb => by
      obtain ⟨c, hc, hl, hk⟩ := h
      exact ⟨c, hIx c s A C hc (hb.mono (by omega)), (hb.block _ (by omega)).trans hl, (hb.block _ (by omega)).trans hk⟩)
    ?round ⟨hI0, hl0, hk0⟩).mono ?behind
  case round =>
    rintro pre x V ⟨hi, hl, hk⟩ hsV
    have hy := run_yield (P := P) (args := encs x) hl (by rw [hR]; exact hps x)
    rw [hR] at hy
    refine ⟨fn, _, assign, body, hy, roundIn_of_wpIn hfn (hassign _ x V _ (by omega) fun a' W hax hba => ?_)⟩
    have hsW : W1.heap.size ≤ W.heap.size := Nat.le_trans hsV hba.size
    replace hi : I pre W := hI _ _ _ hi (hba.mono (by omega))
    replace hl := (hba.block _ (by omega)).trans hl
    replace hk := (hba.block _ (by omega)).trans hk
    refine ⟨_, run_beginRound hl (by rw [hR]), ?_⟩
    have hax2 := hAx _ _ _ _ hax (cells_put hl (.loop { R .ready none with state := .busy }))
    have hb1 := hturn W (.loop { R .ready none with state := .busy }) (by omega)
    have hl1 : (W.putObj (w.heap.size + 1) (.loop { R .ready none with state := .busy })).heap[w.heap.size + 1]? = some (.loop { R .ready none with state := .busy }) := World.putObj_heap_same (by omega)
    have hk1 : (W.putObj (w.heap.size + 1) (.loop { R .ready none with state := .busy })).heap[w.heap.size]? = some (.deferred (some [])) := (World.putObj_heap_other (by omega)).trans hk
    have hh1 : High W1.heap.size W (W.putObj (w.heap.size + 1) (.loop { R .ready none with state := .busy })) := ⟨by simp, fun k o hk' ho => (World.putObj_heap_other (by omega)).trans ho⟩
    have hs1 : w.heap.size ≤ (W.putObj (w.heap.size + 1) (.loop { R .ready none with state := .busy })).heap.size := by simp; omega
    generalize W.putObj (w.heap.size + 1) (.loop { R .ready none with state := .busy }) = X at hb1 hl1 hk1 hh1 hs1 hax2 ⊢
    refine wpIn_mono (hbody _ pre x a' X (hI _ _ _ hi hb1) hax2 hs1) ?_
    -- how each way out ends the round
    have fin : ∀ (j : Option Code) (Y : World), High w.heap.size X Y →
        (Instr.endRound (w.heap.size + 1) j).run P Y = .ok (.bool j.isNone) (Y.putObj (w.heap.size + 1) (.loop (R (if j.isNone then .ready else .done) j))) ∧
        Below w.heap.size Y (Y.putObj (w.heap.size + 1) (.loop (R (if j.isNone then .ready else .done) j))) ∧
        High W1.heap.size Y (Y.putObj (w.heap.size + 1) (.loop (R (if j.isNone then .ready else .done) j))) ∧
        (Y.putObj (w.heap.size + 1) (.loop (R (if j.isNone then .ready else .done) j))).heap[w.heap.size + 1]? = some (.loop (R (if j.isNone then .ready else .done) j)) ∧
        (Y.putObj (w.heap.size + 1) (.loop (R (if j.isNone then .ready else .done) j))).heap[w.heap.size]? = some (.deferred (some [])) := by
      intro j Y hY
      have hlY := hY.same _ _ (by omega) hl1
      have hlt : w.heap.size + 1 < Y.heap.size := (Array.getElem?_eq_some_iff.1 hlY).1
      have hr := run_endRound (P := P) j hlY
      rw [hR] at hr ⊢
      exact ⟨hr, hturn Y _ hlt, ⟨by simp, fun k o hk' ho => (World.putObj_heap_other (by omega)).trans ho⟩, World.putObj_heap_same hlt, (World.putObj_heap_other (by omega)).trans (hY.same _ _ (Nat.le_refl _) hk1)⟩
    rintro e a3 Y hp
    cases e with
    | normal =>
      obtain ⟨hBY, hHY, hiY⟩ := hp
      obtain ⟨hr, hb2, hh2, hl2, hk2⟩ := fin none Y hHY
      exact ⟨_, _, hr, .inl ⟨rfl, ⟨hI _ _ _ hiY hb2, hl2, hk2⟩, (hba.mono (by omega)).trans (((hb1.mono hn).trans hBY).trans (hb2.mono hn)), (High.of_below hba).trans ((hh1.trans (hHY.mono (by omega))).trans hh2)⟩⟩
    | ret =>
      obtain ⟨hHY, hiY⟩ := hp
      obtain ⟨hr, hb2, hh2, hl2, hk2⟩ := fin (some .ret) Y hHY
      exact ⟨_, _, hr, .inr ⟨rfl, ⟨.ret, hIx _ _ _ _ hiY hb2, hl2, hk2⟩, (High.of_below hba).trans ((hh1.trans (hHY.mono (by omega))).trans hh2)⟩⟩
    | exit id =>
      obtain ⟨hHY, hiY⟩ := hp
      obtain ⟨hr, hb2, hh2, hl2, hk2⟩ := fin (some (.exit id)) Y hHY
      exact ⟨_, _, hr, .inr ⟨rfl, ⟨.exit id, hIx _ _ _ _ hiY hb2, hl2, hk2⟩, (High.of_below hba).trans ((hh1.trans (hHY.mono (by omega))).trans hh2)⟩⟩
    | goto t =>
      obtain ⟨hHY, hiY⟩ := hp
      obtain ⟨hr, hb2, hh2, hl2, hk2⟩ := fin (some (.goto t)) Y hHY
      exact ⟨_, _, hr, .inr ⟨rfl, ⟨.goto t, hIx _ _ _ _ hiY hb2, hl2, hk2⟩, (High.of_below hba).trans ((hh1.trans (hHY.mono (by omega))).trans hh2)⟩⟩
    | panic ch => exact hp.elim
    | outgrown => exact hp.elim
  case behind =>
    rintro e Y ⟨⟨v, rfl⟩, (⟨xs, hS, hi, hl, hk⟩ | ⟨pre, hSp, c, hi, hl, hk⟩)⟩
    · have hlt : w.heap.size + 1 < Y.heap.size := (Array.getElem?_eq_some_iff.1 hl).1
      refine ⟨none, _, by have := run_endLoop (P := P) hl (by rw [hR]; simp); rw [hR] at this; exact this, ?_⟩
      exact hdone _ xs _ (Nat.le_refl _) hS (hI _ _ _ hi (hturn Y _ hlt)) ((World.putObj_heap_other (by omega)).trans hk)
    · have hlt : w.heap.size + 1 < Y.heap.size := (Array.getElem?_eq_some_iff.1 hl).1
      refine ⟨some c, _, by have := run_endLoop (P := P) hl (by rw [hR]; simp); rw [hR] at this; exact this, ?_⟩
      exact hstop _ c pre _ (Nat.le_refl _) hSp (hIx c _ _ _ hi (hturn Y _ hlt)) ((World.putObj_heap_other (by omega)).trans hk)
end

section
open Go.RowKit Go
/-- The marks of loops that are done: their blocks lie from B on and ahead of T, none twice, none with a call. -/
def Marks (B T : Nat) (ds : List Deferred) (W : World) : Prop :=
  ∃ Ds : List Nat, ds = Ds.map (fun D => { target := .collected D, args := #[] }) ∧ Ds.Nodup ∧ ∀ D ∈ Ds, B ≤ D ∧ D < T ∧ W.heap[D]? = some (.deferred (some []))
theorem Marks.nil (B T : Nat) (W : World) : Marks B T [] W := ⟨[], rfl, List.nodup_nil, fun _ h => by cases h⟩
theorem Marks.keep {B T U : Nat} {ds : List Deferred} {W W' : World} (h : Marks B T ds W) (hb : Below U W W') (hT : T ≤ U) : Marks B T ds W' := by
  obtain ⟨Ds, e, hn, hD⟩ := h
  exact ⟨Ds, e, hn, fun D hm => ⟨(hD D hm).1, (hD D hm).2.1, (hb.block _ (by have := (hD D hm).2.1; omega)).trans (hD D hm).2.2⟩⟩
theorem Marks.wide {B T U : Nat} {ds : List Deferred} {W : World} (h : Marks B T ds W) (hT : T ≤ U) : Marks B U ds W := by
  obtain ⟨Ds, e, hn, hD⟩ := h
  exact ⟨Ds, e, hn, fun D hm => ⟨(hD D hm).1, by have := (hD D hm).2.1; omega, (hD D hm).2.2⟩⟩
theorem Marks.cell {B T : Nat} {ds : List Deferred} {W : World} (h : Marks B T ds W) {p : Addr} (hp : p.block < B) (v : Value) : Marks B T ds (W.setCell p v) := by
  obtain ⟨Ds, e, hn, hD⟩ := h
  exact ⟨Ds, e, hn, fun D hm => ⟨(hD D hm).1, (hD D hm).2.1, by rw [heap_setCell_other _ _ _ _ (by have := (hD D hm).1; omega)]; exact (hD D hm).2.2⟩⟩
theorem Marks.more {B T : Nat} {ds : List Deferred} {W : World} (h : Marks B T ds W) {D : Nat} (hB : B ≤ D) (hT : T ≤ D) (hd : W.heap[D]? = some (.deferred (some []))) :
    Marks B W.heap.size ({ target := .collected D, args := #[] } :: ds) W := by
  obtain ⟨Ds, rfl, hn, hD⟩ := h
  have hlt : D < W.heap.size := (Array.getElem?_eq_some_iff.1 hd).1
  refine ⟨D :: Ds, rfl, List.nodup_cons.2 ⟨fun hm => by have := (hD D hm).2.1; omega, hn⟩, fun E hE => ?_⟩
  rcases List.mem_cons.1 hE with rfl | hE
  · exact ⟨hB, hlt, hd⟩
  · exact ⟨(hD E hE).1, by have := (hD E hE).2.1; omega, (hD E hE).2.2⟩
theorem Marks.leaves {F : Fence} {n : Nat} {P : Program} {fn : Func} {tmps : Array Value} {R : Ending → World → Prop} {B T : Nat} {ds : List Deferred} {W : World} (h : Marks B T ds W) (hB : B ≤ W.heap.size)
    (h0 : ∀ W', Below B W W' → LeavesInM F n P fn tmps R [] .returning W') : LeavesInM F n P fn tmps R ds .returning W := by
  obtain ⟨Ds, rfl, hn, hD⟩ := h
  induction Ds generalizing W with
  | nil => exact h0 W (Below.refl _ _)
  | cons D Ds ih =>
    have hn' := List.nodup_cons.1 hn
    have hd := hD D (List.mem_cons_self ..)
    have hb := below_put W D (.deferred none) hB hd.1
    refine ⟨by simp, .inl ⟨D, _, rfl, run_takeDeferred hd.2.2, ih (by simpa using hB) (fun W' h => h0 W' (hb.trans h)) hn'.2 fun E hE => ?_⟩⟩
    have he := hD E (List.mem_cons_of_mem _ hE)
    exact ⟨he.1, he.2.1, (World.putObj_heap_other (fun e => hn'.1 (by rw [← e]; exact hE))).trans he.2.2⟩
theorem Marks.high {B T : Nat} {ds : List Deferred} {W W' : World} (h : Marks B T ds W) (hh : High B W W') : Marks B T ds W' := by
  obtain ⟨Ds, e, hn, hD⟩ := h
  exact ⟨Ds, e, hn, fun D hm => ⟨(hD D hm).1, (hD D hm).2.1, hh.same _ _ (hD D hm).1 (hD D hm).2.2⟩⟩
end

end Go.Proofs.Ytmfpkphhjfgjbab
