/-
  What the texts LDig, WDig say, so far as this seat's proofs need it.
-/
import Derived.Test.YtogkfmoediiieaaW0C
import Derived.RangeFuncFrom
import Derived.RangeFuncCalls
import Derived.RangeFuncLeaves
import Derived.Laws.BitsAllLaws
import Derived.Handy
import Derived.Deep.QuietTactic
import Derived.Test.YtogkfmoediiieaaProg
import Derived.WalkSpells
import Derived.WalkLawsBesides
import Derived.BigQuiet
import Derived.PlainAid
import Derived.Deep.RegionWith
import Derived.Deep.RegionHeld3
import Derived.WalkSmall
import Derived.Deep.CutRange
import Derived.BigRegion
import Derived.Shelf.RegionOpen
import Derived.WalkKit
import Derived.OwnWalkIn
import Derived.TacticsInMore
import Derived.LoopNIn
import Derived.LoopIn
import Derived.RegionIn
import Derived.Stop.RegionWithIn
namespace Go.Proofs.Ytogkfmoediiieaa

section
open Go.RowKit Go

/-- What speaks of the memory ahead of B alone. -/
def Firm {β : Type} (B : Nat) (J : β → World → Prop) : Prop := ∀ s A C, J s A → Below B A C → J s C
/-- What was made from B on stays. -/
structure High (B : Nat) (W W' : World) : Prop where
  size : W.heap.size ≤ W'.heap.size
  same : ∀ k o, B ≤ k → W.heap[k]? = some o → W'.heap[k]? = some o
theorem High.refl (B : Nat) (W : World) : High B W W := ⟨Nat.le_refl _, fun _ _ _ h => h⟩
theorem High.trans {B : Nat} {X Y Z : World} (h : High B X Y) (k : High B Y Z) : High B X Z := ⟨Nat.le_trans h.size k.size, fun i o hi ho => k.same i o hi (h.same i o hi ho)⟩
theorem High.mono {B C : Nat} {X Y : World} (h : High B X Y) (hc : B ≤ C) : High C X Y := ⟨h.size, fun k o hk => h.same k o (Nat.le_trans hc hk)⟩
theorem High.of_below {B : Nat} {W W' : World} (h : Below W.heap.size W W') : High B W W' :=
  ⟨h.size, fun k o _ hk => by rw [h.block k (Array.getElem?_eq_some_iff.1 hk).1]; exact hk⟩
theorem High.setCell {B : Nat} {X W : World} (h : High B X W) {p : Addr} (hp : p.block < B) (v : Value) : High B X (W.setCell p v) :=
  h.trans ⟨by simp, fun k o hk ho => by rw [heap_setCell_other _ _ _ _ (by omega)]; exact ho⟩
theorem High.cell {B : Nat} {W W' : World} (h : High B W W') {p : Addr} {v : Value} (hp : B ≤ p.block) (hc : W.cell? p = some v) : W'.cell? p = some v := by
  have hlt := World.block_lt_of_cell? _ _ hc
  have hb : W'.heap[p.block]? = W.heap[p.block]? := by
    rw [Array.getElem?_eq_getElem hlt]
    exact h.same p.block _ hp (Array.getElem?_eq_getElem hlt)
  rw [World.cell?_of_block hb]; exact hc
theorem High.frozen {B : Nat} {W W' : World} (h : High B W W') {p : Addr} (hp : B ≤ p.block) (hlt : p.block < W.heap.size) : W'.frozen? p = W.frozen? p := by
  have hb : W'.heap[p.block]? = W.heap[p.block]? := by
    rw [Array.getElem?_eq_getElem hlt]
    exact h.same p.block _ hp (Array.getElem?_eq_getElem hlt)
  exact World.frozen?_of_block hb
/-- A block that is turned, at or beyond B. -/
theorem below_put {B : Nat} (W : World) (l : Nat) (o : Obj) (hB : B ≤ W.heap.size) (hl : B ≤ l) : Below B W (W.putObj l o) :=
  (Below.refl B W).grown (grownBy_putObj' W l o) hB (fun k e => by cases e; exact hl)

/-- AN ITERATOR's CONTRACT: n₀: the memory that a round leaves as it is; N: no more rounds. -/
def SeqF {α : Type} (F : Fence) (n : Nat) (P : Program) (g : Nat) (pb lb : Array Value) (encs : α → Array Value) (n₀ : Nat) (S Sp : List α → Prop) (N : Nat) (w : World) : Prop :=
  ∀ (l : Nat) (J Jx : List α → World → Prop) (W : World), Below w.heap.size w W → Firm W.heap.size J → Firm W.heap.size Jx →
    (∀ pre x W1, J pre W1 → pre.length < N → W.heap.size ≤ W1.heap.size → YieldAt F (n - 1) P l (encs x) W1 fun e W' =>
      (e = .returned (.bool true) ∧ J (pre ++ [x]) W' ∧ Below n₀ W1 W' ∧ High W.heap.size W1 W') ∨ (e = .returned (.bool false) ∧ Jx (pre ++ [x]) W')) →
    J [] W →
    CallsIn F n P g (pb ++ #[.func (.yield l) #[] #[]] ++ lb) W fun e W' => (∃ v, e = .returned v) ∧ ((∃ xs, S xs ∧ J xs W') ∨ (∃ pre, Sp pre ∧ Jx pre W'))

/-- How the body of a round may be left. -/
def rfPost {α : Type} (n₀ B : Nat) (I : List α → World → Prop) (Ix : Code → List α → World → Prop) (xs : List α) (W : World) : Exit → Act → World → Prop
  | .normal, _, W' => Below n₀ W W' ∧ High B W W' ∧ I xs W'
  | .ret, _, W' => High B W W' ∧ Ix .ret xs W'
  | .exit id, _, W' => High B W W' ∧ Ix (.exit id) xs W'
  | .goto t, _, W' => High B W W' ∧ Ix (.goto t) xs W'
  | .panic _, _, _ => False
  | .outgrown, _, _ => False

variable {F : Fence} {n : Nat} {P : Program}

theorem rf_law {α : Type} {g : Operand} {ps : Array Tmp} {assign body : Code} {Q : Exit → Act → World → Prop} {a : Act} {w : World}
    (hro : F.round = none) (h1 : 1 ≤ n) {gf : Nat} {pb lb : Array Value} (hg : a.eval g = .func (.func gf) pb lb) (hFg : F.fn gf) (eg : ∀ args w, (callFunc gf args).run P w = .ok (.enter gf args) w)
    {encs : α → Array Value} {n₀ : Nat} {S Sp : List α → Prop} {N : Nat} (hseq : SeqF F (n - 1) P gf pb lb encs n₀ S Sp N w) (hn : n₀ ≤ w.heap.size) (hps : ∀ x, (encs x).size = ps.size)
    (I : List α → World → Prop) (Ix : Code → List α → World → Prop) (hI : Firm w.heap.size I) (hIx : ∀ c, Firm w.heap.size (Ix c)) (h0 : I [] w) (a₁ : α → Act)
    (hassign : ∀ (l : Nat) (x : α) (W : World) (K : Act → World → Prop), K (a₁ x) W →
      assign.wpIn (F.inRound l) (n - 1 - 1) P (Exit.then K (fun _ _ _ => False)) { tmps := (ps.zip (encs x)).foldl (fun t (p, v) => t.setIfInBounds p v) a.tmps, defers := [] } W)
    (hbody : ∀ (l : Nat) (pre : List α) (x : α) (W : World), I pre W → w.heap.size ≤ W.heap.size → pre.length < N → body.wpIn (F.inRound l) (n - 1 - 1) P (rfPost n₀ w.heap.size I Ix (pre ++ [x]) W) (a₁ x) W)
    (hdone : ∀ (D : Nat) (xs : List α) (W : World), w.heap.size ≤ D → S xs → I xs W → W.heap[D]? = some (.deferred (some [])) → Q .normal { a with defers := { target := .collected D, args := #[] } :: a.defers } W)
    (hstop : ∀ (D : Nat) (c : Code) (pre : List α) (W : World), w.heap.size ≤ D → Sp pre → Ix c pre W → W.heap[D]? = some (.deferred (some [])) → c.wpIn F n P Q { a with defers := { target := .collected D, args := #[] } :: a.defers } W) :
    (Code.rangeFunc g ps assign body).wpIn F n P Q a w := by
  apply wpIn_rangeFunc
  intro fn hfn
  rw [hro]
  -- the loop's record in its states
  obtain ⟨R, hR⟩ : ∃ R : LoopState → Option Code → Loop, R = fun st pe => { state := st, pending := pe, fn, tmps := a.tmps, params := ps, assign, body, defers := w.heap.size } := ⟨_, rfl⟩
  have hen := run_enterLoop_outer (P := P) (w := w) fn a.tmps ps assign body
  rw [show ({ state := .ready, pending := none, fn, tmps := a.tmps, params := ps, assign, body, defers := w.heap.size } : Loop) = R .ready none by rw [hR]] at hen
  have hsz : ((w.alloc (.deferred (some []))).alloc (.loop (R .ready none))).heap.size = w.heap.size + 2 := by simp
  have hl0 : ((w.alloc (.deferred (some []))).alloc (.loop (R .ready none))).heap[w.heap.size + 1]? = some (.loop (R .ready none)) := by
    have := World.alloc_heap_new (w.alloc (.deferred (some []))) (.loop (R .ready none)); rwa [World.size_alloc] at this
  have hk0 : ((w.alloc (.deferred (some []))).alloc (.loop (R .ready none))).heap[w.heap.size]? = some (.deferred (some [])) :=
    (Below.heap_alloc _ _ _ (by simp)).trans (World.alloc_heap_new w _)
  have hB0 : Below w.heap.size w ((w.alloc (.deferred (some []))).alloc (.loop (R .ready none))) := ((Below.refl _ w).alloc (Nat.le_refl _) _).alloc (by simp) _
  generalize (w.alloc (.deferred (some []))).alloc (.loop (R .ready none)) = W1 at hen hsz hl0 hk0 hB0
  have hI0 : I [] W1 := hI _ _ _ h0 hB0
  -- a turn of the record keeps what the invariant speaks of
  have hturn : ∀ (W : World) (o : Obj), w.heap.size + 1 < W.heap.size → Below w.heap.size W (W.putObj (w.heap.size + 1) o) := fun W o hW => below_put W _ o (by omega) (by omega)
  refine ⟨w.heap.size + 1, _, W1, { target := .fn (.func gf) lb, args := pb ++ #[.func (.yield (w.heap.size + 1)) #[] #[]] }, W1, gf, pb ++ #[.func (.yield (w.heap.size + 1)) #[] #[]] ++ lb, W1, hen, ?_, ?_, ?_, fun _ => h1, ?_⟩
  · simp only [resolve, hg]
    simp [go_sem]
  · intro f' hf'; simp [Target.leads] at hf'; subst hf'; exact hFg
  · simp [invoke, go_sem, eg]
  refine (hseq (w.heap.size + 1)
    (fun pre W => I pre W ∧ W.heap[w.heap.size + 1]? = some (.loop (R .ready none)) ∧ W.heap[w.heap.size]? = some (.deferred (some [])))
    (fun pre W => ∃ c, Ix c pre W ∧ W.heap[w.heap.size + 1]? = some (.loop (R .done (some c))) ∧ W.heap[w.heap.size]? = some (.deferred (some [])))
    W1 hB0
    (fun s A C h hb => ⟨hI s A C h.1 (hb.mono (by omega)), (hb.block _ (by omega)).trans h.2.1, (hb.block _ (by omega)).trans h.2.2⟩)
    (fun s A C h hb => by
      obtain ⟨c, hc, hl, hk⟩ := h
      exact ⟨c, hIx c s A C hc (hb.mono (by omega)), (hb.block _ (by omega)).trans hl, (hb.block _ (by omega)).trans hk⟩)
    ?round ⟨hI0, hl0, hk0⟩).mono ?behind
  case round =>
    rintro pre x W ⟨hi, hl, hk⟩ hlen hsW
    have hy := run_yield (P := P) (args := encs x) hl (by rw [hR]; exact hps x)
    rw [hR] at hy
    refine ⟨fn, _, assign, body, hy, roundIn_of_wpIn hfn (hassign _ x W _ ⟨_, run_beginRound hl (by rw [hR]), ?_⟩)⟩
    have hb1 := hturn W (.loop { R .ready none with state := .busy }) (by omega)
    have hl1 : (W.putObj (w.heap.size + 1) (.loop { R .ready none with state := .busy })).heap[w.heap.size + 1]? = some (.loop { R .ready none with state := .busy }) := World.putObj_heap_same (by omega)
    have hk1 : (W.putObj (w.heap.size + 1) (.loop { R .ready none with state := .busy })).heap[w.heap.size]? = some (.deferred (some [])) := (World.putObj_heap_other (by omega)).trans hk
    have hh1 : High W1.heap.size W (W.putObj (w.heap.size + 1) (.loop { R .ready none with state := .busy })) := ⟨by simp, fun k o hk' ho => (World.putObj_heap_other (by omega)).trans ho⟩
    have hs1 : w.heap.size ≤ (W.putObj (w.heap.size + 1) (.loop { R .ready none with state := .busy })).heap.size := by simp; omega
    generalize W.putObj (w.heap.size + 1) (.loop { R .ready none with state := .busy }) = X at hb1 hl1 hk1 hh1 hs1 ⊢
    refine wpIn_mono (hbody _ pre x X (hI _ _ _ hi hb1) hs1 hlen) ?_
    -- how each way out ends the round
    have fin : ∀ (j : Option Code) (Y : World), High w.heap.size X Y →
        (Instr.endRound (w.heap.size + 1) j).run P Y = .ok (.bool j.isNone) (Y.putObj (w.heap.size + 1) (.loop (R (if j.isNone then .ready else .done) j))) ∧
        Below w.heap.size Y (Y.putObj (w.heap.size + 1) (.loop (R (if j.isNone then .ready else .done) j))) ∧
        High W1.heap.size Y (Y.putObj (w.heap.size + 1) (.loop (R (if j.isNone then .ready else .done) j))) ∧
        (Y.putObj (w.heap.size + 1) (.loop (R (if j.isNone then .ready else .done) j))).heap[w.heap.size + 1]? = some (.loop (R (if j.isNone then .ready else .done) j)) ∧
        (Y.putObj (w.heap.size + 1) (.loop (R (if j.isNone then .ready else .done) j))).heap[w.heap.size]? = some (.deferred (some [])) := by
      intro j Y hY
      have hlY := hY.same _ _ (by omega) hl1
      have hlt : w.heap.size + 1 < Y.heap.size := (Array.getElem?_eq_some_iff.1 hlY).1
      have hr := run_endRound (P := P) j hlY
      rw [hR] at hr ⊢
      exact ⟨hr, hturn Y _ hlt, ⟨by simp, fun k o hk' ho => (World.putObj_heap_other (by omega)).trans ho⟩, World.putObj_heap_same hlt, (World.putObj_heap_other (by omega)).trans (hY.same _ _ (Nat.le_refl _) hk1)⟩
    rintro e a3 Y hp
    cases e with
    | normal =>
      obtain ⟨hBY, hHY, hiY⟩ := hp
      obtain ⟨hr, hb2, hh2, hl2, hk2⟩ := fin none Y hHY
      exact ⟨_, _, hr, .inl ⟨rfl, ⟨hI _ _ _ hiY hb2, hl2, hk2⟩, ((hb1.mono hn).trans hBY).trans (hb2.mono hn), (hh1.trans (hHY.mono (by omega))).trans hh2⟩⟩
    | ret =>
      obtain ⟨hHY, hiY⟩ := hp
      obtain ⟨hr, hb2, hh2, hl2, hk2⟩ := fin (some .ret) Y hHY
      exact ⟨_, _, hr, .inr ⟨rfl, .ret, hIx _ _ _ _ hiY hb2, hl2, hk2⟩⟩
    | exit id =>
      obtain ⟨hHY, hiY⟩ := hp
      obtain ⟨hr, hb2, hh2, hl2, hk2⟩ := fin (some (.exit id)) Y hHY
      exact ⟨_, _, hr, .inr ⟨rfl, .exit id, hIx _ _ _ _ hiY hb2, hl2, hk2⟩⟩
    | goto t =>
      obtain ⟨hHY, hiY⟩ := hp
      obtain ⟨hr, hb2, hh2, hl2, hk2⟩ := fin (some (.goto t)) Y hHY
      exact ⟨_, _, hr, .inr ⟨rfl, .goto t, hIx _ _ _ _ hiY hb2, hl2, hk2⟩⟩
    | panic ch => exact hp.elim
    | outgrown => exact hp.elim
  case behind =>
    rintro e Y ⟨⟨v, rfl⟩, (⟨xs, hS, hi, hl, hk⟩ | ⟨pre, hSp, c, hi, hl, hk⟩)⟩
    · have hlt : w.heap.size + 1 < Y.heap.size := (Array.getElem?_eq_some_iff.1 hl).1
      refine ⟨none, _, by have := run_endLoop (P := P) hl (by rw [hR]; simp); rw [hR] at this; exact this, ?_⟩
      exact hdone _ xs _ (Nat.le_refl _) hS (hI _ _ _ hi (hturn Y _ hlt)) ((World.putObj_heap_other (by omega)).trans hk)
    · have hlt : w.heap.size + 1 < Y.heap.size := (Array.getElem?_eq_some_iff.1 hl).1
      refine ⟨some c, _, by have := run_endLoop (P := P) hl (by rw [hR]; simp); rw [hR] at this; exact this, ?_⟩
      exact hstop _ c pre _ (Nat.le_refl _) hSp (hIx c _ _ _ hi (hturn Y _ hlt)) ((World.putObj_heap_other (by omega)).trans hk)
end

section
open Go.RowKit Go
attribute [local go_sem] Oper.semAt_some

/-- What a round is handed: a size from 1 to 12, a digit from 0 to 7. -/
abbrev Dig := Fin 12 × Fin 8
def szD (x : Dig) : Int := ((x.1.val + 1 : Nat) : Int)
def dgD (x : Dig) : Int := ((x.2.val : Nat) : Int)
abbrev encD (x : Dig) : Array Value := #[.int .i64 (szD x), .int .i64 (dgD x)]
theorem szD_box (x : Dig) : 1 ≤ szD x ∧ szD x ≤ 12 ∧ (szD x).toNat = x.1.val + 1 := by unfold szD; have := x.1.isLt; omega
theorem dgD_box (x : Dig) : 0 ≤ dgD x ∧ dgD x ≤ 7 := by unfold dgD; have := x.2.isLt; omega
def mkD (j : Nat) (d : Int) : Dig := (⟨(j - 1) % 12, by omega⟩, ⟨d.toNat % 8, by omega⟩)
theorem encD_mk {j : Nat} {d : Int} (j1 : 1 ≤ j) (j2 : j ≤ 12) (d0 : 0 ≤ d) (d7 : d ≤ 7) : encD (mkD j d) = #[.int .i64 (j : Int), .int .i64 d] := by
  unfold encD szD dgD mkD
  simp only
  rw [show (((j - 1) % 12 + 1 : Nat) : Int) = (j : Int) by omega, show ((d.toNat % 8 : Nat) : Int) = d by omega]
/-- The first k digits, from the finest on. -/
def digL (r : Nat) (a b : Int) (k : Nat) : List Dig := (List.range k).map fun (i : Nat) => mkD (r - i) (dig (ups i a b).1 (ups i a b).2)
theorem digL_step (r : Nat) (a b : Int) (k : Nat) : digL r a b (k + 1) = digL r a b k ++ [mkD (r - k) (dig (ups k a b).1 (ups k a b).2)] := by unfold digL; rw [List.range_succ, List.map_append]; rfl
theorem digL_len (r : Nat) (a b : Int) (k : Nat) : (digL r a b k).length = k := by unfold digL; simp
theorem slotI_of {w : World} {p : Addr} {n : Int} (h : w.cell? p = some (.int .i64 n)) : slotInt w p = n := by unfold slotInt; rw [h]

end

end Go.Proofs.Ytogkfmoediiieaa
namespace Go.Proofs.Ytogkfmoediiieaa
open Go.RowKit Go
attribute [local go_sem] Oper.semAt_some

/-- The first k digits, from the coarsest on. -/
def wl (v : Int) (k : Nat) : List Dig := (List.range k).map fun (i : Nat) => mkD (i + 1) (dg v (i + 1))

theorem wl_step (v : Int) (k : Nat) : wl v (k + 1) = wl v k ++ [mkD (k + 1) (dg v (k + 1))] := by unfold wl; rw [List.range_succ, List.map_append]; rfl

theorem wl_len (v : Int) (k : Nat) : (wl v k).length = k := by unfold wl; simp

theorem mkD_sz {j : Nat} {d : Int} (j1 : 1 ≤ j) (j2 : j ≤ 12) : szD (mkD j d) = j := by unfold szD mkD; simp only; omega

theorem mkD_dg {j : Nat} {d : Int} (d0 : 0 ≤ d) (d7 : d ≤ 7) : dgD (mkD j d) = d := by unfold dgD mkD; simp only; omega

set_option maxRecDepth 100000 in
set_option maxHeartbeats 4000000 in
theorem wdig_seq (v : Int) (hv : U64 v) (n₀ : Nat) (w : World) (hn : n₀ ≤ w.heap.size) :
    SeqF Fence.wide 2 Try.prog 79 #[.int .u64 v] #[] encD n₀ (fun xs => xs = wl v 12) (fun pre => ∃ k, k ≤ 12 ∧ pre = wl v k) 12 w := by
  intro l J Jx W hW hJ hJx hY h0
  have hW0 : n₀ ≤ W.heap.size := Nat.le_trans hn hW.size
  have DA : Hid (∀ k : Nat, k < 12 → ∀ w, Calls Try.prog 92 #[.int .i64 ((k : Int) + 1)] w fun e w' => e = .returned (.int .i64 (33 - 3 * (k : Int))) ∧ w' = w) := fun k hk w => wdigitAt _ _ (by omega) (by omega) (by omega) w
  have PA : Hid (∀ k : Nat, k < 12 → ∀ w, Calls Try.prog 77 #[.int .u64 v, .int .i64 (33 - 3 * (k : Int)), .int .i64 3] w fun e w' => e = .returned (.int .i64 (dg v (k + 1))) ∧ Below w.heap.size w w') := by
    intro k hk w
    have h := wpart_dg v hv (k + 1) (by omega) (by omega) w
    rwa [show (3 * (12 - ((k + 1 : Nat) : Int))) = 33 - 3 * (k : Int) by omega] at h
  refine callsIn_of_wp Try.func79 rfl trivial ?_ rfl
  simp only [Try.ntmps79, List.size_toArray, List.length_cons, List.length_nil, Nat.reduceAdd, Nat.reduceSub, Array.replicate_succ, Array.replicate_zero, List.push_toArray, List.append_toArray, List.nil_append, List.cons_append]
  gi_wp2
  gi_loopw [4] (fun v4 wr => ∃ k : Nat, k ≤ 12 ∧ v4 = .int .i64 ((k : Int) + 1) ∧ Below n₀ W wr ∧ W.heap.size ≤ wr.heap.size ∧ J (wl v k) wr) (fun v4 _ => 13 - (intOf v4).toNat)
  case atStart => exact ⟨0, by omega, rfl, Below.refl _ _, by omega, h0⟩
  case round =>
    obtain ⟨k, hk, rfl, hb, hsz, hJr⟩ := hrel
    by_cases hlt : k < 12
    · have hd := dg_box v (k + 1)
      have D1 := DA.out k hlt
      have P1 := PA.out k hlt
      have hYY : ∀ w1, Below wr.heap.size wr w1 → YieldAt Fence.wide 1 Try.prog l #[.int .i64 ((k : Int) + 1), .int .i64 (dg v (k + 1))] w1 fun e W' => ∃ b : Bool, e = .returned (.bool b) ∧ ((b = true ∧ J (wl v (k + 1)) W' ∧ Below n₀ w1 W' ∧ High W.heap.size w1 W') ∨ (b = false ∧ Jx (wl v (k + 1)) W')) := by
        intro w1 hb1
        have hJ1 : J (wl v k) w1 := hJ _ _ _ hJr (hb1.mono hsz)
        obtain ⟨fn, tmps, assign, body, hy, hR⟩ := hY _ (mkD (k + 1) (dg v (k + 1))) w1 hJ1 (by rw [wl_len]; exact hlt) (by have := hb1.size; omega)
        rw [encD_mk (by omega) (by omega) hd.1 hd.2, show ((k + 1 : Nat) : Int) = (k : Int) + 1 by omega] at hy
        refine ⟨fn, tmps, assign, body, hy, hR.mono ?_⟩
        rintro e W' (⟨rfl, h1, h2, h3⟩ | ⟨rfl, h1⟩)
        · exact ⟨true, rfl, .inl ⟨rfl, by rw [wl_step]; exact h1, h2, h3⟩⟩
        · exact ⟨false, rfl, .inr ⟨rfl, by rw [wl_step]; exact h1⟩⟩
      generalize dg v (k + 1) = D at *
      have hk1 : (k : Int) + 1 ≤ 12 := by omega
      clear DA PA hY
      replace D1 : Hid _ := D1
      replace P1 : Hid _ := P1
      replace hYY : Hid _ := hYY
      gi_wp2_with (first
        | (refine ⟨trivial, ?_⟩; gi_at_call 92; refine (callsIn_wide.2 (D1.out _)).mono ?_; rintro e w' ⟨rfl, rfl⟩)
        | (refine ⟨trivial, ?_⟩; gi_at_call 77; refine (callsIn_wide.2 (P1.out _)).mono ?_; rintro e w1 ⟨rfl, hb1⟩; obtain ⟨fn, tmps, assign, body, hy, hR⟩ := hYY.out w1 hb1)
        | fail)
      all_goals
        refine hR.mono ?_
        rintro e W3 ⟨b, rfl, (⟨rfl, h1, h2, h3⟩ | ⟨rfl, h1⟩)⟩
        · gi_wp2
          go_roundw
          case rel => exact ⟨k + 1, by omega, by go_num, (hb.trans (hb1.mono (by omega))).trans h2, by have := h3.size; have := hb1.size; omega, h1⟩
          case measure => simp [intOf]; omega
        · gi_wp2
          refine bodyPost_ret (results_none rfl _ _ _) rfl ?_
          exact ⟨⟨_, rfl⟩, .inr ⟨_, ⟨k + 1, by omega, rfl⟩, h1⟩⟩
    · obtain rfl : k = 12 := by omega
      clear DA PA
      gi_wp2
      go_end0
      exact ⟨⟨_, rfl⟩, .inl ⟨_, rfl, hJr⟩⟩

/-- A digit that fits the word's size. -/
def fitD (R : Int) (x : Dig) : Prop := dgD x = 7 ↔ R < szD x

theorem fit_all {v : Int} (h1 : v / 1152921504606846976 = 1) (h2 : wR v ≤ 12) (h : ∀ x ∈ wl v 12, fitD (wR v) x) : Whole v := by
  refine ⟨h1, h2, fun j j1 j2 => ?_⟩
  have hd := dg_box v j
  have := h (mkD j (dg v j)) (by unfold wl; exact List.mem_map.2 ⟨j - 1, List.mem_range.2 (by omega), by rw [show j - 1 + 1 = j by omega]⟩)
  unfold fitD at this
  rwa [mkD_sz j1 j2, mkD_dg hd.1 hd.2] at this

theorem fit_no {v : Int} {k : Nat} (hk : k ≤ 12) {x : Dig} (hx : x ∈ wl v k) (h : ¬ fitD (wR v) x) : ¬ Whole v := by
  intro hw
  unfold wl at hx
  obtain ⟨i, hi, rfl⟩ := List.mem_map.1 hx
  have hi := List.mem_range.1 hi
  have hd := dg_box v (i + 1)
  apply h
  unfold fitD
  rw [mkD_sz (by omega) (by omega), mkD_dg hd.1 hd.2]
  exact hw.2.2 (i + 1) (by omega) (by omega)

set_option maxRecDepth 100000 in
set_option maxHeartbeats 4000000 in
theorem whole_bad1 (v : Int) (hv : U64 v) (h : ¬ v / 1152921504606846976 = 1) (w : World) :
    Calls Try.prog 54 #[.int .u64 v] w fun e w' => e = .returned (.bool false) ∧ Below w.heap.size w w' := by
  have PM : Hid (∀ w, Calls Try.prog 77 #[.int .u64 v, .int .i64 60, .int .i64 4] w fun e w' => e = .returned (.int .i64 (v / 1152921504606846976)) ∧ Below w.heap.size w w') := wpart_mark v hv
  have hm : ((v / 1152921504606846976) != 1) = true := by simpa using h
  generalize v / 1152921504606846976 = m at *
  clear hv
  go_enter Try.func54, Try.ntmps54
  go_wp2_with fail
  refine (PM.out _).mono ?_
  rintro e w1 ⟨rfl, d1⟩
  have c1 : Below w.heap.size w w1 := Below.trans (by go_grown) (d1.mono (by simp; try omega))
  have z0 : w1.cell? ⟨w.heap.size, 0, none⟩ = some (.int .u64 v) := keepCell d1 (by go_simp)
  have qz0 := World.block_lt_of_cell? _ _ z0
  have r0 : w1.cell? ⟨w.heap.size + 1, 0, none⟩ = some (.bool false) := keepCell d1 (by go_simp)
  have fr0 : w1.frozen? ⟨w.heap.size + 1, 0, none⟩ = false := keepFrozen (v := .bool false) d1 (by go_simp) (by go_simp)
  have qr0 := World.block_lt_of_cell? _ _ r0
  have hB := c1
  clear c1 d1
  go_wp2
  exact bodyPost_ret (v := .bool false) (by simp [results, Try.results54, go_sem, store_new r0]) rfl ⟨rfl, hB.setCell (by simp) _⟩

set_option maxRecDepth 100000 in
set_option maxHeartbeats 4000000 in
theorem whole_bad2 (v : Int) (hv : U64 v) (h : v / 1152921504606846976 = 1) (h2 : 12 < wR v) (w : World) :
    Calls Try.prog 54 #[.int .u64 v] w fun e w' => e = .returned (.bool false) ∧ Below w.heap.size w w' := by
  have PM : Hid (∀ w, Calls Try.prog 77 #[.int .u64 v, .int .i64 60, .int .i64 4] w fun e w' => e = .returned (.int .i64 1) ∧ Below w.heap.size w w') := fun w => by rw [← h]; exact wpart_mark v hv w
  have SZ : Hid (∀ w, Calls Try.prog 52 #[.int .u64 v] w fun e w' => e = .returned (.int .i64 (wR v)) ∧ Below w.heap.size w w') := wsize v hv
  generalize wR v = R at *
  clear hv h
  go_enter Try.func54, Try.ntmps54
  go_wp2_with fail
  refine (PM.out _).mono ?_
  rintro e w1 ⟨rfl, d1⟩
  have c1 : Below w.heap.size w w1 := Below.trans (by go_grown) (d1.mono (by simp; try omega))
  have z0 : w1.cell? ⟨w.heap.size, 0, none⟩ = some (.int .u64 v) := keepCell d1 (by go_simp)
  have qz0 := World.block_lt_of_cell? _ _ z0
  have r0 : w1.cell? ⟨w.heap.size + 1, 0, none⟩ = some (.bool false) := keepCell d1 (by go_simp)
  have fr0 : w1.frozen? ⟨w.heap.size + 1, 0, none⟩ = false := keepFrozen (v := .bool false) d1 (by go_simp) (by go_simp)
  have qr0 := World.block_lt_of_cell? _ _ r0
  have hB := c1
  clear c1 d1
  go_wp2_with fail
  refine (SZ.out _).mono ?_
  rintro e w2 ⟨rfl, d2⟩
  have c2 : Below w1.heap.size w1 w2 := Below.trans (by go_grown) (d2.mono (by simp; try omega))
  replace z0 := keepCell c2 z0
  replace qz0 := World.block_lt_of_cell? _ _ z0
  replace fr0 := keepFrozen c2 r0 fr0
  replace r0 := keepCell c2 r0
  replace qr0 := World.block_lt_of_cell? _ _ r0
  replace hB := belowT hB c2
  clear c2 d2
  go_wp2
  exact bodyPost_ret (v := .bool false) (by simp [results, Try.results54, go_sem, store_new r0]) rfl ⟨rfl, hB.setCell (by simp) _⟩

set_option maxRecDepth 100000 in
set_option maxHeartbeats 8000000 in
theorem whole_core (v : Int) (hv : U64 v) (hm : v / 1152921504606846976 = 1) (h2 : wR v ≤ 12) (w : World) :
    Calls Try.prog 54 #[.int .u64 v] w fun e w' => (∃ b : Bool, e = .returned (.bool b) ∧ (b = true ↔ Whole v)) ∧ Below w.heap.size w w' := by
  have PM : Hid (∀ w, Calls Try.prog 77 #[.int .u64 v, .int .i64 60, .int .i64 4] w fun e w' => e = .returned (.int .i64 1) ∧ Below w.heap.size w w') := fun w => by rw [← hm]; exact wpart_mark v hv w
  have SZ : Hid (∀ w, Calls Try.prog 52 #[.int .u64 v] w fun e w' => e = .returned (.int .i64 (wR v)) ∧ Below w.heap.size w w') := wsize v hv
  have hYes : Hid ((∀ x ∈ wl v 12, fitD (wR v) x) → Whole v) := fit_all hm h2
  have hNo : Hid (∀ (k : Nat) (x : Dig), k ≤ 12 → x ∈ wl v k → ¬ fitD (wR v) x → ¬ Whole v) := fun k x hk hx h => fit_no hk hx h
  have h0 := (wR_box v).1
  generalize wR v = R at *
  have hq : decide (12 < R) = false := df (by omega)
  refine (callsIn_wide (n := 3)).1 ?_
  refine callsIn_of_wp_marks Try.func54 rfl trivial ?_ rfl
  simp only [Try.ntmps54, List.size_toArray, List.length_cons, List.length_nil, Nat.reduceAdd, Nat.reduceSub, Array.replicate_succ, Array.replicate_zero, List.push_toArray, List.append_toArray, List.nil_append, List.cons_append]
  have hal := allocB w (.cells #[.int .u64 v] 86)
  have hal2 := belowT hal (allocB (w.alloc (.cells #[.int .u64 v] 86)) (.cells #[.bool false] 4))
  have z0 : ((w.alloc (.cells #[.int .u64 v] 86)).alloc (.cells #[.bool false] 4)).cell? ⟨w.heap.size, 0, none⟩ = some (.int .u64 v) := by go_simp
  have r0 : ((w.alloc (.cells #[.int .u64 v] 86)).alloc (.cells #[.bool false] 4)).cell? ⟨w.heap.size + 1, 0, none⟩ = some (.bool false) := by go_simp
  have q0 : ((w.alloc (.cells #[.int .u64 v] 86)).alloc (.cells #[.bool false] 4)).frozen? ⟨w.heap.size + 1, 0, none⟩ = false := by go_simp
  gi_wp2_with (first
    | (refine ⟨trivial, ?_⟩; gi_at_call 77; refine (callsIn_wide.2 (PM.out _)).mono ?_; rintro e w1 ⟨rfl, hb1⟩; have z1 := keepCell hb1 z0; have r1 := keepCell hb1 r0; have q1 := keepFrozen hb1 r0 q0)
    | (refine ⟨trivial, ?_⟩; gi_at_call 52; refine (callsIn_wide.2 (SZ.out _)).mono ?_; rintro e w2 ⟨rfl, hb2⟩; have z2 := keepCell hb2 z1; have r2 := keepCell hb2 r1; have q2 := keepFrozen hb2 r1 q1)
    | fail)
  have hbw : Below w.heap.size w w2 := belowT (belowT hal2 hb1) hb2
  have hz : w.heap.size + 1 < w2.heap.size := World.block_lt_of_cell? _ _ r2
  refine rf_law rfl (by omega) (gf := 79) (pb := #[.int .u64 v]) (lb := #[]) rfl trivial (enters_of Try.func79 (by kernel_rfl) rfl)
    (wdig_seq v hv w.heap.size w2 (by omega)) (by omega) (fun _ => rfl)
    (fun pre W => ((∀ x ∈ pre, fitD R x) ∧ W.cell? ⟨w.heap.size, 0, none⟩ = some (.int .u64 v) ∧ W.cell? ⟨w.heap.size + 1, 0, none⟩ = some (.bool false) ∧ W.frozen? ⟨w.heap.size + 1, 0, none⟩ = false) ∧ Below w.heap.size w W)
    (fun c pre W => (c = .ret ∧ (∃ x ∈ pre, ¬ fitD R x) ∧ W.cell? ⟨w.heap.size + 1, 0, none⟩ = some (.bool false)) ∧ Below w.heap.size w W) ?hI ?hIx ⟨⟨(by intro x hx; cases hx), z2, r2, q2⟩, hbw⟩
    (fun x => { tmps := #[.int .u64 v, .pointer (some ⟨w.heap.size, 0, none⟩), .pointer (some ⟨w.heap.size + 1, 0, none⟩), .int .i64 (szD x), .int .i64 (dgD x), .int .u64 v, .int .i64 1, .bool false, .bool false, .int .u64 v, .int .i64 R, .bool false, .bool false, .int .u64 v, .func (.func 79) #[.int .u64 v] #[], .int .i64 (szD x), .int .i64 (dgD x), undef, undef, undef, undef, undef, undef, undef], defers := [] }) ?assign ?body ?done ?stop
  case hI =>
    intro s X Y hs hb
    exact ⟨⟨hs.1.1, (hb.cell (p := ⟨w.heap.size, 0, none⟩) (by simp; omega)).trans hs.1.2.1, (hb.cell (p := ⟨w.heap.size + 1, 0, none⟩) (by simp; omega)).trans hs.1.2.2.1, (hb.frozen (p := ⟨w.heap.size + 1, 0, none⟩) (by simp; omega)).trans hs.1.2.2.2⟩, hs.2.trans (hb.mono (by omega))⟩
  case hIx =>
    intro c s X Y hs hb
    exact ⟨⟨hs.1.1, hs.1.2.1, (hb.cell (p := ⟨w.heap.size + 1, 0, none⟩) (by simp; omega)).trans hs.1.2.2⟩, hs.2.trans (hb.mono (by omega))⟩
  case assign =>
    intro l x W K hK
    gi_wp2
    exact hK
  case body =>
    rintro l pre x W ⟨⟨hp, hc, hr0, hf⟩, hb⟩ hs _
    have hsx := szD_box x
    have hdx := dgD_box x
    have hx : fitD R x ↔ ((dgD x == 7) = decide (R < szD x)) := by
      unfold fitD
      by_cases h7 : dgD x = 7 <;> by_cases hR : R < szD x <;> simp [h7, hR]
    cases e7 : (dgD x == 7) <;> cases eR : decide (R < szD x) <;> rw [e7, eR] at hx <;> simp only [reduceCtorEq, iff_true, iff_false] at hx
    · gi_wp2_with (refine ⟨trivial, ?_⟩; gi_at_call 52; refine (CallsIn.inRound l (callsIn_wide.2 (SZ.out _))).mono ?_; rintro e w3 ⟨rfl, hb3⟩; have c3 := keepCell hb3 hc; have s3 := keepCell hb3 hr0; have f3 := keepFrozen hb3 hr0 hf)
      exact ⟨hb3.mono (by omega), High.of_below hb3, ⟨fun y hy => (List.mem_append.1 hy).elim (hp y) (fun h => by rw [List.mem_singleton.1 h]; exact hx), c3, s3, f3⟩, hb.trans (hb3.mono (by omega))⟩
    · gi_wp2_with (refine ⟨trivial, ?_⟩; gi_at_call 52; refine (CallsIn.inRound l (callsIn_wide.2 (SZ.out _))).mono ?_; rintro e w3 ⟨rfl, hb3⟩; have c3 := keepCell hb3 hc; have s3 := keepCell hb3 hr0; have f3 := keepFrozen hb3 hr0 hf)
      exact ⟨(High.of_below hb3).setCell (p := ⟨w.heap.size + 1, 0, none⟩) (by simp; omega) _, ⟨rfl, ⟨x, List.mem_append.2 (.inr (List.mem_singleton.2 rfl)), hx⟩, store_new s3⟩, (hb.trans (hb3.mono (by omega))).setCell (p := ⟨w.heap.size + 1, 0, none⟩) (by simp) _⟩
    · gi_wp2_with (refine ⟨trivial, ?_⟩; gi_at_call 52; refine (CallsIn.inRound l (callsIn_wide.2 (SZ.out _))).mono ?_; rintro e w3 ⟨rfl, hb3⟩; have c3 := keepCell hb3 hc; have s3 := keepCell hb3 hr0; have f3 := keepFrozen hb3 hr0 hf)
      exact ⟨(High.of_below hb3).setCell (p := ⟨w.heap.size + 1, 0, none⟩) (by simp; omega) _, ⟨rfl, ⟨x, List.mem_append.2 (.inr (List.mem_singleton.2 rfl)), hx⟩, store_new s3⟩, (hb.trans (hb3.mono (by omega))).setCell (p := ⟨w.heap.size + 1, 0, none⟩) (by simp) _⟩
    · gi_wp2_with (refine ⟨trivial, ?_⟩; gi_at_call 52; refine (CallsIn.inRound l (callsIn_wide.2 (SZ.out _))).mono ?_; rintro e w3 ⟨rfl, hb3⟩; have c3 := keepCell hb3 hc; have s3 := keepCell hb3 hr0; have f3 := keepFrozen hb3 hr0 hf)
      exact ⟨hb3.mono (by omega), High.of_below hb3, ⟨fun y hy => (List.mem_append.1 hy).elim (hp y) (fun h => by rw [List.mem_singleton.1 h]; exact hx), c3, s3, f3⟩, hb.trans (hb3.mono (by omega))⟩
  case done =>
    rintro D xs W hD rfl ⟨⟨hp, hc, hr0, hf⟩, hb⟩ hK
    have hW := hYes.out hp
    have hK' : (W.setCell ⟨w.heap.size + 1, 0, none⟩ (.bool true)).heap[D]? = some (.deferred (some [])) := by rw [heap_setCell_other _ _ _ _ (by simp; omega)]; exact hK
    have hbp := below_put (B := w.heap.size + 2) (W.setCell ⟨w.heap.size + 1, 0, none⟩ (.bool true)) D (.deferred none) (by simp; have := (Array.getElem?_eq_some_iff.1 hK).1; omega) (by omega)
    have hcell := (hbp.cell (p := ⟨w.heap.size + 1, 0, none⟩) (by simp)).trans (store_new hr0)
    gi_wp2
    refine ⟨by simp, .inl ⟨_, _, rfl, run_takeDeferred hK', ?_⟩⟩
    exact ⟨.bool true, by simp [results, Try.results54, go_sem, hcell], ⟨true, rfl, by simp [hW]⟩, (hb.setCell (p := ⟨w.heap.size + 1, 0, none⟩) (by simp) _).trans (hbp.mono (by omega))⟩
  case stop =>
    rintro D c pre W hD ⟨k, hk, rfl⟩ ⟨⟨rfl, ⟨x, hx, hn⟩, hr0⟩, hb⟩ hK
    have hW := hNo.out k x hk hx hn
    have hbp := below_put (B := w.heap.size + 2) W D (.deferred none) (by have := (Array.getElem?_eq_some_iff.1 hK).1; omega) (by omega)
    have hcell := (hbp.cell (p := ⟨w.heap.size + 1, 0, none⟩) (by simp)).trans hr0
    gi_wp2
    refine ⟨by simp, .inl ⟨_, _, rfl, run_takeDeferred hK, ?_⟩⟩
    exact ⟨.bool false, by simp [results, Try.results54, go_sem, hcell], ⟨false, rfl, by simp [hW]⟩, hb.trans (hbp.mono (by omega))⟩

/-- WHOLE: just the words of cells. -/
theorem iswhole (v : Int) (hv : U64 v) (b : Bool) (hb : b = true ↔ Whole v) (w : World) :
    Calls Try.prog 54 #[.int .u64 v] w fun e w' => e = .returned (.bool b) ∧ Below w.heap.size w w' := by
  by_cases h1 : v / 1152921504606846976 = 1
  · by_cases h2 : wR v ≤ 12
    · refine (whole_core v hv h1 h2 w).mono ?_
      rintro e w' ⟨⟨b', rfl, hb'⟩, h⟩
      have : b' = b := by
        cases b <;> cases b' <;> simp at hb hb' ⊢
        · exact absurd hb' hb
        · exact absurd hb hb'
      exact ⟨by rw [this], h⟩
    · obtain rfl : b = false := by
        cases b
        · rfl
        · exact absurd (hb.1 rfl).2.1 h2
      exact whole_bad2 v hv h1 (by omega) w
  · obtain rfl : b = false := by
      cases b
      · rfl
      · exact absurd (hb.1 rfl).1 h1
    exact whole_bad1 v hv h1 w

set_option maxHeartbeats 1000000 in
/-- OK, of words. -/
theorem iok (v : Int) (hv : U64 v) (b : Bool) (hb : b = true ↔ Whole v) (w : World) :
    Calls Try.prog 35 #[.int .u64 v] w fun e w' => e = .returned (.bool b) ∧ Below w.heap.size w w' := by
  have IW : Hid (∀ w, Calls Try.prog 54 #[.int .u64 v] w fun e w' => e = .returned (.bool b) ∧ Below w.heap.size w w') := iswhole v hv b hb
  clear hb hv
  go_enter Try.func35, Try.ntmps35
  go_wp2_with fail
  refine (IW.out _).mono ?_
  rintro e w1 ⟨rfl, d1⟩
  have c1 : Below w.heap.size w w1 := Below.trans (by go_grown) (d1.mono (by simp; try omega))
  have hB := c1
  clear c1 d1
  go_wp2
  go_ret
  exact ⟨rfl, hB⟩

set_option maxHeartbeats 1000000 in
theorem ires_yes (v : Int) (h : Whole v) (w : World) :
    Calls Try.prog 36 #[.int .u64 v] w fun e w' => e = .returned (.int .i64 (wR v)) ∧ Below w.heap.size w w' := by
  have hx := whole_box h
  have hv : U64 v := ⟨by omega, by omega⟩
  have IK : Hid (∀ w, Calls Try.prog 35 #[.int .u64 v] w fun e w' => e = .returned (.bool true) ∧ Below w.heap.size w w') := iok v hv true (by simp [h])
  have SZ : Hid (∀ w, Calls Try.prog 52 #[.int .u64 v] w fun e w' => e = .returned (.int .i64 (wR v)) ∧ Below w.heap.size w w') := wsize v hv
  generalize wR v = R at *
  clear h hv hx
  go_enter Try.func36, Try.ntmps36
  go_wp2_with fail
  refine (IK.out _).mono ?_
  rintro e w1 ⟨rfl, d1⟩
  have c1 : Below w.heap.size w w1 := Below.trans (by go_grown) (d1.mono (by simp; try omega))
  have hB := c1
  clear c1 d1
  go_wp2_with fail
  refine (SZ.out _).mono ?_
  rintro e w2 ⟨rfl, d2⟩
  have c2 : Below w1.heap.size w1 w2 := Below.trans (by go_grown) (d2.mono (by simp; try omega))
  replace hB := belowT hB c2
  clear c2 d2
  go_wp2
  go_ret
  exact ⟨rfl, hB⟩

set_option maxHeartbeats 1000000 in
theorem ires_no (v : Int) (hv : U64 v) (h : ¬ Whole v) (w : World) :
    Calls Try.prog 36 #[.int .u64 v] w fun e w' => e = .returned (.int .i64 (-1)) ∧ Below w.heap.size w w' := by
  have IK : Hid (∀ w, Calls Try.prog 35 #[.int .u64 v] w fun e w' => e = .returned (.bool false) ∧ Below w.heap.size w w') := iok v hv false (by simp [h])
  clear h hv
  go_enter Try.func36, Try.ntmps36
  go_wp2_with fail
  refine (IK.out _).mono ?_
  rintro e w1 ⟨rfl, d1⟩
  have c1 : Below w.heap.size w w1 := Below.trans (by go_grown) (d1.mono (by simp; try omega))
  have hB := c1
  clear c1 d1
  go_wp2
  go_ret
  exact ⟨rfl, hB⟩

set_option maxHeartbeats 1000000 in
theorem iparent_yes (v : Int) (h : Whole v) (hr : 0 < wR v) (w : World) :
    Calls Try.prog 34 #[.int .u64 v] w fun e w' => e = .returned (.tuple #[.int .u64 (upW v), .int .i64 0]) ∧ Below w.heap.size w w' := by
  have hx := whole_box h
  have hv : U64 v := ⟨by omega, by omega⟩
  have IK : Hid (∀ w, Calls Try.prog 35 #[.int .u64 v] w fun e w' => e = .returned (.bool true) ∧ Below w.heap.size w w') := iok v hv true (by simp [h])
  have SZ : Hid (∀ w, Calls Try.prog 52 #[.int .u64 v] w fun e w' => e = .returned (.int .i64 (wR v)) ∧ Below w.heap.size w w') := wsize v hv
  have RA : Hid (∀ w, Calls Try.prog 53 #[.int .u64 v] w fun e w' => e = .returned (.int .u64 (upW v)) ∧ Below w.heap.size w w') := wraised v h hr
  have q : (wR v == 0) = false := by simp; omega
  generalize wR v = R at *
  generalize upW v = U at *
  clear h hv hx
  go_enter Try.func34, Try.ntmps34
  go_wp2_with fail
  refine (IK.out _).mono ?_
  rintro e w1 ⟨rfl, d1⟩
  have c1 : Below w.heap.size w w1 := Below.trans (by go_grown) (d1.mono (by simp; try omega))
  have hB := c1
  clear c1 d1
  go_wp2_with fail
  refine (SZ.out _).mono ?_
  rintro e w2 ⟨rfl, d2⟩
  have c2 : Below w1.heap.size w1 w2 := Below.trans (by go_grown) (d2.mono (by simp; try omega))
  replace hB := belowT hB c2
  clear c2 d2
  go_wp2_with fail
  refine (RA.out _).mono ?_
  rintro e w3 ⟨rfl, d3⟩
  have c3 : Below w2.heap.size w2 w3 := Below.trans (by go_grown) (d3.mono (by simp; try omega))
  replace hB := belowT hB c3
  clear c3 d3
  go_wp2
  go_ret2
  exact ⟨rfl, hB⟩

set_option maxHeartbeats 1000000 in
theorem iparent_top (v : Int) (h : Whole v) (hr : wR v = 0) (w : World) :
    Calls Try.prog 34 #[.int .u64 v] w fun e w' => e = .returned (.tuple #[.int .u64 0, .int .i64 3]) ∧ Below w.heap.size w w' := by
  have hx := whole_box h
  have hv : U64 v := ⟨by omega, by omega⟩
  have IK : Hid (∀ w, Calls Try.prog 35 #[.int .u64 v] w fun e w' => e = .returned (.bool true) ∧ Below w.heap.size w w') := iok v hv true (by simp [h])
  have SZ : Hid (∀ w, Calls Try.prog 52 #[.int .u64 v] w fun e w' => e = .returned (.int .i64 0) ∧ Below w.heap.size w w') := fun w => by rw [← hr]; exact wsize v hv w
  clear h hv hx hr
  go_enter Try.func34, Try.ntmps34
  go_wp2_with fail
  refine (IK.out _).mono ?_
  rintro e w1 ⟨rfl, d1⟩
  have c1 : Below w.heap.size w w1 := Below.trans (by go_grown) (d1.mono (by simp; try omega))
  have hB := c1
  clear c1 d1
  go_wp2_with fail
  refine (SZ.out _).mono ?_
  rintro e w2 ⟨rfl, d2⟩
  have c2 : Below w1.heap.size w1 w2 := Below.trans (by go_grown) (d2.mono (by simp; try omega))
  replace hB := belowT hB c2
  clear c2 d2
  go_wp2
  go_ret2
  exact ⟨rfl, hB⟩

set_option maxHeartbeats 1000000 in
theorem iparent_no (v : Int) (hv : U64 v) (h : ¬ Whole v) (w : World) :
    Calls Try.prog 34 #[.int .u64 v] w fun e w' => e = .returned (.tuple #[.int .u64 0, .int .i64 5]) ∧ Below w.heap.size w w' := by
  have IK : Hid (∀ w, Calls Try.prog 35 #[.int .u64 v] w fun e w' => e = .returned (.bool false) ∧ Below w.heap.size w w') := iok v hv false (by simp [h])
  clear h hv
  go_enter Try.func34, Try.ntmps34
  go_wp2_with fail
  refine (IK.out _).mono ?_
  rintro e w1 ⟨rfl, d1⟩
  have c1 : Below w.heap.size w w1 := Below.trans (by go_grown) (d1.mono (by simp; try omega))
  have hB := c1
  clear c1 d1
  go_wp2
  go_ret2
  exact ⟨rfl, hB⟩

end Go.Proofs.Ytogkfmoediiieaa
