/-
  The digits of all on a cell's line, handed on one by one, the finest first: what package ident's digits of a line tells a loop over it, for any cell that may be.
-/
import Derived.RangeFuncFrom
import Derived.RangeFuncCalls
import Derived.RangeFuncLeaves
import Derived.Test.YtlipbdiijjfheaaGreatDoorIWord
import Derived.Test.YtlipbdiijjfheaaGreatDoorCCell
import Derived.Shelf.RegionOpen
import Derived.WalkKit
import Derived.OwnWalkIn
import Derived.TacticsInMore
import Derived.LoopNIn
import Derived.LoopIn
import Derived.RegionIn
import Derived.Stop.RegionWithIn
namespace Go.Proofs.YtlipbdiijjfheaaGreatDoor
section
open Go.RowKit Go

/-- What speaks of the memory ahead of B alone. -/
def Firm {β : Type} (B : Nat) (J : β → World → Prop) : Prop := ∀ s A C, J s A → Below B A C → J s C
/-- What was made from B on stays. -/
structure High (B : Nat) (W W' : World) : Prop where
  size : W.heap.size ≤ W'.heap.size
  same : ∀ k o, B ≤ k → W.heap[k]? = some o → W'.heap[k]? = some o
theorem High.refl (B : Nat) (W : World) : High B W W := ⟨Nat.le_refl _, fun _ _ _ h => h⟩
theorem High.trans {B : Nat} {X Y Z : World} (h : High B X Y) (k : High B Y Z) : High B X Z := ⟨Nat.le_trans h.size k.size, fun i o hi ho => k.same i o hi (h.same i o hi ho)⟩
theorem High.mono {B C : Nat} {X Y : World} (h : High B X Y) (hc : B ≤ C) : High C X Y := ⟨h.size, fun k o hk => h.same k o (Nat.le_trans hc hk)⟩
theorem High.of_below {B : Nat} {W W' : World} (h : Below W.heap.size W W') : High B W W' :=
  ⟨h.size, fun k o _ hk => by rw [h.block k (Array.getElem?_eq_some_iff.1 hk).1]; exact hk⟩
theorem High.setCell {B : Nat} {X W : World} (h : High B X W) {p : Addr} (hp : p.block < B) (v : Value) : High B X (W.setCell p v) :=
  h.trans ⟨by simp, fun k o hk ho => by rw [heap_setCell_other _ _ _ _ (by omega)]; exact ho⟩
theorem High.cell {B : Nat} {W W' : World} (h : High B W W') {p : Addr} {v : Value} (hp : B ≤ p.block) (hc : W.cell? p = some v) : W'.cell? p = some v := by
  have hlt := World.block_lt_of_cell? _ _ hc
  have hb : W'.heap[p.block]? = W.heap[p.block]? := by
    rw [Array.getElem?_eq_getElem hlt]
    exact h.same p.block _ hp (Array.getElem?_eq_getElem hlt)
  rw [World.cell?_of_block hb]; exact hc
theorem High.frozen {B : Nat} {W W' : World} (h : High B W W') {p : Addr} (hp : B ≤ p.block) (hlt : p.block < W.heap.size) : W'.frozen? p = W.frozen? p := by
  have hb : W'.heap[p.block]? = W.heap[p.block]? := by
    rw [Array.getElem?_eq_getElem hlt]
    exact h.same p.block _ hp (Array.getElem?_eq_getElem hlt)
  exact World.frozen?_of_block hb
/-- A block that is turned, at or beyond B. -/
theorem below_put {B : Nat} (W : World) (l : Nat) (o : Obj) (hB : B ≤ W.heap.size) (hl : B ≤ l) : Below B W (W.putObj l o) :=
  (Below.refl B W).grown (grownBy_putObj' W l o) hB (fun k e => by cases e; exact hl)

/-- AN ITERATOR's CONTRACT: n₀: the memory that a round leaves as it is; N: no more rounds. -/
def SeqF {α : Type} (F : Fence) (n : Nat) (P : Program) (g : Nat) (pb lb : Array Value) (encs : α → Array Value) (n₀ : Nat) (S Sp : List α → Prop) (N : Nat) (w : World) : Prop :=
  ∀ (l : Nat) (J Jx : List α → World → Prop) (W : World), Below w.heap.size w W → Firm W.heap.size J → Firm W.heap.size Jx →
    (∀ pre x W1, J pre W1 → pre.length < N → W.heap.size ≤ W1.heap.size → YieldAt F (n - 1) P l (encs x) W1 fun e W' =>
      (e = .returned (.bool true) ∧ J (pre ++ [x]) W' ∧ Below n₀ W1 W' ∧ High W.heap.size W1 W') ∨ (e = .returned (.bool false) ∧ Jx (pre ++ [x]) W')) →
    J [] W →
    CallsIn F n P g (pb ++ #[.func (.yield l) #[] #[]] ++ lb) W fun e W' => (∃ v, e = .returned v) ∧ ((∃ xs, S xs ∧ J xs W') ∨ (∃ pre, Sp pre ∧ Jx pre W'))

/-- How the body of a round may be left. -/
def rfPost {α : Type} (n₀ B : Nat) (I : List α → World → Prop) (Ix : Code → List α → World → Prop) (xs : List α) (W : World) : Exit → Act → World → Prop
  | .normal, _, W' => Below n₀ W W' ∧ High B W W' ∧ I xs W'
  | .ret, _, W' => High B W W' ∧ Ix .ret xs W'
  | .exit id, _, W' => High B W W' ∧ Ix (.exit id) xs W'
  | .goto t, _, W' => High B W W' ∧ Ix (.goto t) xs W'
  | .panic _, _, _ => False
  | .outgrown, _, _ => False

variable {F : Fence} {n : Nat} {P : Program}

theorem rf_law {α : Type} {g : Operand} {ps : Array Tmp} {assign body : Code} {Q : Exit → Act → World → Prop} {a : Act} {w : World}
    (hro : F.round = none) (h1 : 1 ≤ n) {gf : Nat} {pb lb : Array Value} (hg : a.eval g = .func (.func gf) pb lb) (hFg : F.fn gf) (eg : ∀ args w, (callFunc gf args).run P w = .ok (.enter gf args) w)
    {encs : α → Array Value} {n₀ : Nat} {S Sp : List α → Prop} {N : Nat} (hseq : SeqF F (n - 1) P gf pb lb encs n₀ S Sp N w) (hn : n₀ ≤ w.heap.size) (hps : ∀ x, (encs x).size = ps.size)
    (I : List α → World → Prop) (Ix : Code → List α → World → Prop) (hI : Firm w.heap.size I) (hIx : ∀ c, Firm w.heap.size (Ix c)) (h0 : I [] w) (a₁ : α → Act)
    (hassign : ∀ (l : Nat) (x : α) (W : World) (K : Act → World → Prop), K (a₁ x) W →
      assign.wpIn (F.inRound l) (n - 1 - 1) P (Exit.then K (fun _ _ _ => False)) { tmps := (ps.zip (encs x)).foldl (fun t (p, v) => t.setIfInBounds p v) a.tmps, defers := [] } W)
    (hbody : ∀ (l : Nat) (pre : List α) (x : α) (W : World), I pre W → w.heap.size ≤ W.heap.size → pre.length < N → body.wpIn (F.inRound l) (n - 1 - 1) P (rfPost n₀ w.heap.size I Ix (pre ++ [x]) W) (a₁ x) W)
    (hdone : ∀ (D : Nat) (xs : List α) (W : World), w.heap.size ≤ D → S xs → I xs W → W.heap[D]? = some (.deferred (some [])) → Q .normal { a with defers := { target := .collected D, args := #[] } :: a.defers } W)
    (hstop : ∀ (D : Nat) (c : Code) (pre : List α) (W : World), w.heap.size ≤ D → Sp pre → Ix c pre W → W.heap[D]? = some (.deferred (some [])) → c.wpIn F n P Q { a with defers := { target := .collected D, args := #[] } :: a.defers } W) :
    (Code.rangeFunc g ps assign body).wpIn F n P Q a w := by
  apply wpIn_rangeFunc
  intro fn hfn
  rw [hro]
  -- the loop's record in its states
  obtain ⟨R, hR⟩ : ∃ R : LoopState → Option Code → Loop, R = fun st pe => { state := st, pending := pe, fn, tmps := a.tmps, params := ps, assign, body, defers := w.heap.size } := ⟨_, rfl⟩
  have hen := run_enterLoop_outer (P := P) (w := w) fn a.tmps ps assign body
  rw [show ({ state := .ready, pending := none, fn, tmps := a.tmps, params := ps, assign, body, defers := w.heap.size } : Loop) = R .ready none by rw [hR]] at hen
  have hsz : ((w.alloc (.deferred (some []))).alloc (.loop (R .ready none))).heap.size = w.heap.size + 2 := by simp
  have hl0 : ((w.alloc (.deferred (some []))).alloc (.loop (R .ready none))).heap[w.heap.size + 1]? = some (.loop (R .ready none)) := by
    have := World.alloc_heap_new (w.alloc (.deferred (some []))) (.loop (R .ready none)); rwa [World.size_alloc] at this
  have hk0 : ((w.alloc (.deferred (some []))).alloc (.loop (R .ready none))).heap[w.heap.size]? = some (.deferred (some [])) :=
    (Below.heap_alloc _ _ _ (by simp)).trans (World.alloc_heap_new w _)
  have hB0 : Below w.heap.size w ((w.alloc (.deferred (some []))).alloc (.loop (R .ready none))) := ((Below.refl _ w).alloc (Nat.le_refl _) _).alloc (by simp) _
  generalize (w.alloc (.deferred (some []))).alloc (.loop (R .ready none)) = W1 at hen hsz hl0 hk0 hB0
  have hI0 : I [] W1 := hI _ _ _ h0 hB0
  -- a turn of the record keeps what the invariant speaks of
  have hturn : ∀ (W : World) (o : Obj), w.heap.size + 1 < W.heap.size → Below w.heap.size W (W.putObj (w.heap.size + 1) o) := fun W o hW => below_put W _ o (by omega) (by omega)
  refine ⟨w.heap.size + 1, _, W1, { target := .fn (.func gf) lb, args := pb ++ #[.func (.yield (w.heap.size + 1)) #[] #[]] }, W1, gf, pb ++ #[.func (.yield (w.heap.size + 1)) #[] #[]] ++ lb, W1, hen, ?_, ?_, ?_, fun _ => h1, ?_⟩
  · simp only [resolve, hg]
    simp [go_sem]
  · intro f' hf'; simp [Target.leads] at hf'; subst hf'; exact hFg
  · simp [invoke, go_sem, eg]
  refine (hseq (w.heap.size + 1)
    (fun pre W => I pre W ∧ W.heap[w.heap.size + 1]? = some (.loop (R .ready none)) ∧ W.heap[w.heap.size]? = some (.deferred (some [])))
    (fun pre W => ∃ c, Ix c pre W ∧ W.heap[w.heap.size + 1]? = some (.loop (R .done (some c))) ∧ W.heap[w.heap.size]? = some (.deferred (some [])))
    W1 hB0
    (fun s A C h hb => ⟨hI s A C h.1 (hb.mono (by omega)), (hb.block _ (by omega)).trans h.2.1, (hb.block _ (by omega)).trans h.2.2⟩)
    (fun s A C h hb => by
      obtain ⟨c, hc, hl, hk⟩ := h
      exact ⟨c, hIx c s A C hc (hb.mono (by omega)), (hb.block _ (by omega)).trans hl, (hb.block _ (by omega)).trans hk⟩)
    ?round ⟨hI0, hl0, hk0⟩).mono ?behind
  case round =>
    rintro pre x W ⟨hi, hl, hk⟩ hlen hsW
    have hy := run_yield (P := P) (args := encs x) hl (by rw [hR]; exact hps x)
    rw [hR] at hy
    refine ⟨fn, _, assign, body, hy, roundIn_of_wpIn hfn (hassign _ x W _ ⟨_, run_beginRound hl (by rw [hR]), ?_⟩)⟩
    have hb1 := hturn W (.loop { R .ready none with state := .busy }) (by omega)
    have hl1 : (W.putObj (w.heap.size + 1) (.loop { R .ready none with state := .busy })).heap[w.heap.size + 1]? = some (.loop { R .ready none with state := .busy }) := World.putObj_heap_same (by omega)
    have hk1 : (W.putObj (w.heap.size + 1) (.loop { R .ready none with state := .busy })).heap[w.heap.size]? = some (.deferred (some [])) := (World.putObj_heap_other (by omega)).trans hk
    have hh1 : High W1.heap.size W (W.putObj (w.heap.size + 1) (.loop { R .ready none with state := .busy })) := ⟨by simp, fun k o hk' ho => (World.putObj_heap_other (by omega)).trans ho⟩
    have hs1 : w.heap.size ≤ (W.putObj (w.heap.size + 1) (.loop { R .ready none with state := .busy })).heap.size := by simp; omega
    generalize W.putObj (w.heap.size + 1) (.loop { R .ready none with state := .busy }) = X at hb1 hl1 hk1 hh1 hs1 ⊢
    refine wpIn_mono (hbody _ pre x X (hI _ _ _ hi hb1) hs1 hlen) ?_
    -- how each way out ends the round
    have fin : ∀ (j : Option Code) (Y : World), High w.heap.size X Y →
        (Instr.endRound (w.heap.size + 1) j).run P Y = .ok (.bool j.isNone) (Y.putObj (w.heap.size + 1) (.loop (R (if j.isNone then .ready else .done) j))) ∧
        Below w.heap.size Y (Y.putObj (w.heap.size + 1) (.loop (R (if j.isNone then .ready else .done) j))) ∧
        High W1.heap.size Y (Y.putObj (w.heap.size + 1) (.loop (R (if j.isNone then .ready else .done) j))) ∧
        (Y.putObj (w.heap.size + 1) (.loop (R (if j.isNone then .ready else .done) j))).heap[w.heap.size + 1]? = some (.loop (R (if j.isNone then .ready else .done) j)) ∧
        (Y.putObj (w.heap.size + 1) (.loop (R (if j.isNone then .ready else .done) j))).heap[w.heap.size]? = some (.deferred (some [])) := by
      intro j Y hY
      have hlY := hY.same _ _ (by omega) hl1
      have hlt : w.heap.size + 1 < Y.heap.size := (Array.getElem?_eq_some_iff.1 hlY).1
      have hr := run_endRound (P := P) j hlY
      rw [hR] at hr ⊢
      exact ⟨hr, hturn Y _ hlt, ⟨by simp, fun k o hk' ho => (World.putObj_heap_other (by omega)).trans ho⟩, World.putObj_heap_same hlt, (World.putObj_heap_other (by omega)).trans (hY.same _ _ (Nat.le_refl _) hk1)⟩
    rintro e a3 Y hp
    cases e with
    | normal =>
      obtain ⟨hBY, hHY, hiY⟩ := hp
      obtain ⟨hr, hb2, hh2, hl2, hk2⟩ := fin none Y hHY
      exact ⟨_, _, hr, .inl ⟨rfl, ⟨hI _ _ _ hiY hb2, hl2, hk2⟩, ((hb1.mono hn).trans hBY).trans (hb2.mono hn), (hh1.trans (hHY.mono (by omega))).trans hh2⟩⟩
    | ret =>
      obtain ⟨hHY, hiY⟩ := hp
      obtain ⟨hr, hb2, hh2, hl2, hk2⟩ := fin (some .ret) Y hHY
      exact ⟨_, _, hr, .inr ⟨rfl, .ret, hIx _ _ _ _ hiY hb2, hl2, hk2⟩⟩
    | exit id =>
      obtain ⟨hHY, hiY⟩ := hp
      obtain ⟨hr, hb2, hh2, hl2, hk2⟩ := fin (some (.exit id)) Y hHY
      exact ⟨_, _, hr, .inr ⟨rfl, .exit id, hIx _ _ _ _ hiY hb2, hl2, hk2⟩⟩
    | goto t =>
      obtain ⟨hHY, hiY⟩ := hp
      obtain ⟨hr, hb2, hh2, hl2, hk2⟩ := fin (some (.goto t)) Y hHY
      exact ⟨_, _, hr, .inr ⟨rfl, .goto t, hIx _ _ _ _ hiY hb2, hl2, hk2⟩⟩
    | panic ch => exact hp.elim
    | outgrown => exact hp.elim
  case behind =>
    rintro e Y ⟨⟨v, rfl⟩, (⟨xs, hS, hi, hl, hk⟩ | ⟨pre, hSp, c, hi, hl, hk⟩)⟩
    · have hlt : w.heap.size + 1 < Y.heap.size := (Array.getElem?_eq_some_iff.1 hl).1
      refine ⟨none, _, by have := run_endLoop (P := P) hl (by rw [hR]; simp); rw [hR] at this; exact this, ?_⟩
      exact hdone _ xs _ (Nat.le_refl _) hS (hI _ _ _ hi (hturn Y _ hlt)) ((World.putObj_heap_other (by omega)).trans hk)
    · have hlt : w.heap.size + 1 < Y.heap.size := (Array.getElem?_eq_some_iff.1 hl).1
      refine ⟨some c, _, by have := run_endLoop (P := P) hl (by rw [hR]; simp); rw [hR] at this; exact this, ?_⟩
      exact hstop _ c pre _ (Nat.le_refl _) hSp (hIx c _ _ _ hi (hturn Y _ hlt)) ((World.putObj_heap_other (by omega)).trans hk)
end
section
open Go.RowKit Go
attribute [local go_sem] Oper.semAt_some

/-- What a round is handed: a size from 1 to 12, a digit from 0 to 7. -/
abbrev Dig := Fin 12 × Fin 8
def szD (x : Dig) : Int := ((x.1.val + 1 : Nat) : Int)
def dgD (x : Dig) : Int := ((x.2.val : Nat) : Int)
abbrev encD (x : Dig) : Array Value := #[.int .i64 (szD x), .int .i64 (dgD x)]
theorem szD_box (x : Dig) : 1 ≤ szD x ∧ szD x ≤ 12 ∧ (szD x).toNat = x.1.val + 1 := by unfold szD; have := x.1.isLt; omega
theorem dgD_box (x : Dig) : 0 ≤ dgD x ∧ dgD x ≤ 7 := by unfold dgD; have := x.2.isLt; omega
def mkD (j : Nat) (d : Int) : Dig := (⟨(j - 1) % 12, by omega⟩, ⟨d.toNat % 8, by omega⟩)
theorem encD_mk {j : Nat} {d : Int} (j1 : 1 ≤ j) (j2 : j ≤ 12) (d0 : 0 ≤ d) (d7 : d ≤ 7) : encD (mkD j d) = #[.int .i64 (j : Int), .int .i64 d] := by
  unfold encD szD dgD mkD
  simp only
  rw [show (((j - 1) % 12 + 1 : Nat) : Int) = (j : Int) by omega, show ((d.toNat % 8 : Nat) : Int) = d by omega]
/-- The first k digits, from the finest on. -/
def digL (r : Nat) (a b : Int) (k : Nat) : List Dig := (List.range k).map fun (i : Nat) => mkD (r - i) (dig (ups i a b).1 (ups i a b).2)
theorem digL_step (r : Nat) (a b : Int) (k : Nat) : digL r a b (k + 1) = digL r a b k ++ [mkD (r - k) (dig (ups k a b).1 (ups k a b).2)] := by unfold digL; rw [List.range_succ, List.map_append]; rfl
theorem digL_len (r : Nat) (a b : Int) (k : Nat) : (digL r a b k).length = k := by unfold digL; simp
theorem slotI_of {w : World} {p : Addr} {n : Int} (h : w.cell? p = some (.int .i64 n)) : slotInt w p = n := by unfold slotInt; rw [h]

set_option maxRecDepth 100000 in
set_option maxHeartbeats 4000000 in
theorem ldig_seq (r : Nat) (a b : Int) (h : Ok4 (r : Int) a b) (n₀ : Nat) (w : World) (hn : n₀ ≤ w.heap.size) (g0 : 1 < n₀) (g1 : 4 < n₀) (hT : Tabs w) :
    SeqF Fence.wide 2 Tryz.prog 39 #[.agg #[.int .i64 (r : Int), .int .i64 a, .int .i64 b]] #[] encD n₀ (fun xs => xs = digL r a b r) (fun _ => True) r w := by
  intro l J Jx W hW hJ hJx hY h0
  have hT0 : Hid (Tabs W) := hT.below hW
  have hW0 : n₀ ≤ W.heap.size := Nat.le_trans hn hW.size
  clear hT
  refine callsIn_of_wp Tryz.func39 rfl trivial ?_ rfl
  simp only [Tryz.ntmps39, List.size_toArray, List.length_cons, List.length_nil, Nat.reduceAdd, Nat.reduceSub, Array.replicate_succ, Array.replicate_zero, List.push_toArray, List.append_toArray, List.nil_append, List.cons_append]
  gi_wp2
  have hz0 : (((W.alloc (.cells #[.int .i64 (r : Int), .int .i64 a, .int .i64 b] 73)).alloc (.cells #[.int .i64 (r : Int), .int .i64 a, .int .i64 b] 34))).heap.size = W.heap.size + 2 := by simp
  gi_loopw [4] (fun v4 wr => ∃ k B : Nat, k ≤ r ∧ v4 = .pointer (some ⟨B, 0, none⟩) ∧ W.heap.size ≤ B ∧ wr.cell? ⟨B, 0, none⟩ = some (.int .i64 ((r : Int) - (k : Int))) ∧ wr.cell? ⟨B, 1, none⟩ = some (.int .i64 (ups k a b).1) ∧ wr.cell? ⟨B, 2, none⟩ = some (.int .i64 (ups k a b).2) ∧ wr.frozen? ⟨B, 0, none⟩ = false ∧ wr.frozen? ⟨B, 1, none⟩ = false ∧ wr.frozen? ⟨B, 2, none⟩ = false ∧ Below n₀ W wr ∧ W.heap.size ≤ wr.heap.size ∧ J (digL r a b k) wr) (fun v4 wr => match v4 with | .pointer (some p) => (slotInt wr p).toNat | _ => 0)
  case atStart =>
    exact ⟨0, W.heap.size + 1, by omega, rfl, by omega, by go_simp, by go_simp; rfl, by go_simp; rfl, by go_simp, by go_simp, by go_simp, by go_grown, by simp; omega, hJ _ _ _ h0 (by go_grown)⟩
  case round =>
    obtain ⟨k, B, hk, rfl, hB, z0, z1, z2, fz0, fz1, fz2, hb, hsz, hJr⟩ := hrel
    by_cases hlt : k < r
    · have hO := ok4_ups h k (by omega)
      have hdr : Below wr.heap.size wr wr.drew := (Below.refl _ _).drew
      have hT1 : Tabs wr.drew := (hT0.out.low (B := n₀) g0 g1 hb).below hdr
      have hDG : Calls Tryz.prog 68 #[.agg #[.int .i64 ((r : Int) - (k : Int)), .int .i64 (ups k a b).1, .int .i64 (ups k a b).2]] wr.drew fun e w' => e = .returned (.int .i64 (dig (ups k a b).1 (ups k a b).2)) ∧ Below wr.drew.heap.size wr.drew w' := cdigit_yes _ _ _ hO (by omega) _ hT1
      have hYY : ∀ w1, Below wr.drew.heap.size wr.drew w1 → YieldAt Fence.wide 1 Tryz.prog l #[.int .i64 ((r : Int) - (k : Int)), .int .i64 (dig (ups k a b).1 (ups k a b).2)] w1 fun e W' => ∃ v : Bool, e = .returned (.bool v) ∧ ((v = true ∧ J (digL r a b (k + 1)) W' ∧ Below n₀ w1 W' ∧ High W.heap.size w1 W') ∨ (v = false ∧ ∃ pre, Jx pre W')) := by
        intro w1 hb1
        have hJ1 : J (digL r a b k) w1 := hJ _ _ _ hJr ((hdr.trans hb1).mono hsz)
        have hd := dig_box (ups k a b).1 (ups k a b).2
        have h12 := h.2.1
        obtain ⟨fn, tmps, assign, body, hy, hR⟩ := hY _ (mkD (r - k) (dig (ups k a b).1 (ups k a b).2)) w1 hJ1 (by rw [digL_len]; exact hlt) (by have := hb1.size; have := hdr.size; omega)
        rw [encD_mk (by omega) (by omega) hd.1 (by omega), show ((r - k : Nat) : Int) = (r : Int) - (k : Int) by omega] at hy
        refine ⟨fn, tmps, assign, body, hy, hR.mono ?_⟩
        rintro e W' (⟨rfl, h1, h2, h3⟩ | ⟨rfl, h1⟩)
        · exact ⟨true, rfl, .inl ⟨rfl, by rw [digL_step]; exact h1, h2, h3⟩⟩
        · exact ⟨false, rfl, .inr ⟨rfl, _, h1⟩⟩
      generalize dig (ups k a b).1 (ups k a b).2 = D at *
      have d0 : wr.drew.cell? ⟨B, 0, none⟩ = some (.int .i64 ((r : Int) - (k : Int))) := z0
      gi_wp2
      gi_region_with (first | (refine ⟨trivial, ?_⟩; gi_at_call 68; refine (callsIn_wide.2 hDG).mono ?_; rintro e w1 ⟨rfl, hb1⟩; have y0 := keepCell hb1 d0; obtain ⟨fn, tmps, assign, body, hy, hR⟩ := hYY w1 hb1) | (refine hR.mono ?_; rintro e W3 ⟨v, rfl, hv⟩))
      all_goals
        rcases hv with ⟨rfl, h1, h2, h3⟩ | ⟨rfl, pre, h1⟩
        · have c0 := h3.cell (p := ⟨B, 0, none⟩) hB y0
          have c1 := h3.cell (p := ⟨B, 1, none⟩) hB (keepCell hb1 (show wr.drew.cell? ⟨B, 1, none⟩ = _ from z1))
          have c2 := h3.cell (p := ⟨B, 2, none⟩) hB (keepCell hb1 (show wr.drew.cell? ⟨B, 2, none⟩ = _ from z2))
          have hb3 : Below n₀ W W3 := ((hb.trans (hdr.mono (by omega))).trans (hb1.mono (by have := hdr.size; omega))).trans h2
          have hs3 : W.heap.size ≤ W3.heap.size := by have := h3.size; have := hb1.size; have := hdr.size; omega
          have hT3 : Tabs W3 := hT0.out.low (B := n₀) g0 g1 hb3
          have PA : Hid (∀ w, Tabs w → Calls Tryz.prog 67 #[.agg #[.int .i64 ((r : Int) - (k : Int)), .int .i64 (ups k a b).1, .int .i64 (ups k a b).2]] w fun e w' => e = .returned (.tuple #[.agg #[.int .i64 ((r : Int) - (k : Int) - 1), .int .i64 (ups (k + 1) a b).1, .int .i64 (ups (k + 1) a b).2], .int .i64 0]) ∧ Below w.heap.size w w') := by
            intro w hT
            rw [ups_last]
            exact cparent_yes _ _ _ hO (by omega) w hT
          generalize (ups k a b).1 = P at *
          generalize (ups k a b).2 = Q at *
          clear hDG hYY hy hR
          have a0 : (W3.alloc (.cells #[.int .i64 ((r : Int) - (k : Int)), .int .i64 P, .int .i64 Q] 34)).cell? ⟨W3.heap.size, 0, none⟩ = some (.int .i64 ((r : Int) - (k : Int))) := by go_simp
          have a1 : (W3.alloc (.cells #[.int .i64 ((r : Int) - (k : Int)), .int .i64 P, .int .i64 Q] 34)).cell? ⟨W3.heap.size, 1, none⟩ = some (.int .i64 P) := by go_simp
          have a2 : (W3.alloc (.cells #[.int .i64 ((r : Int) - (k : Int)), .int .i64 P, .int .i64 Q] 34)).cell? ⟨W3.heap.size, 2, none⟩ = some (.int .i64 Q) := by go_simp
          have f0 : (W3.alloc (.cells #[.int .i64 ((r : Int) - (k : Int)), .int .i64 P, .int .i64 Q] 34)).frozen? ⟨W3.heap.size, 0, none⟩ = false := by go_simp
          have f1 : (W3.alloc (.cells #[.int .i64 ((r : Int) - (k : Int)), .int .i64 P, .int .i64 Q] 34)).frozen? ⟨W3.heap.size, 1, none⟩ = false := by go_simp
          have f2 : (W3.alloc (.cells #[.int .i64 ((r : Int) - (k : Int)), .int .i64 P, .int .i64 Q] 34)).frozen? ⟨W3.heap.size, 2, none⟩ = false := by go_simp
          have hal := allocB W3 (.cells #[.int .i64 ((r : Int) - (k : Int)), .int .i64 P, .int .i64 Q] 34)
          have hT4 := hT3.below hal
          gi_wp2_with (refine ⟨trivial, ?_⟩; gi_at_call 67; refine (callsIn_wide.2 (PA.out _ hT4)).mono ?_; rintro e w4 ⟨rfl, hb4⟩; have q0 := keepCell hb4 a0; have q1 := keepCell hb4 a1; have q2 := keepCell hb4 a2; have fq0 := keepFrozen hb4 a0 f0; have fq1 := keepFrozen hb4 a1 f1; have fq2 := keepFrozen hb4 a2 f2)
          obtain ⟨e0, e1, e2⟩ := three_stores (u0 := .int .i64 ((r : Int) - (k : Int) - 1)) (u1 := .int .i64 (ups (k + 1) a b).1) (u2 := .int .i64 (ups (k + 1) a b).2) q0 q1 q2
          have hb5 := belowT hal hb4
          have hb6 := (((hb5.mono (show W.heap.size ≤ W3.heap.size by omega)).setCell (p := ⟨W3.heap.size, 0, none⟩) hs3 (.int .i64 ((r : Int) - (k : Int) - 1))).setCell (p := ⟨W3.heap.size, 1, none⟩) hs3 (.int .i64 (ups (k + 1) a b).1)).setCell (p := ⟨W3.heap.size, 2, none⟩) hs3 (.int .i64 (ups (k + 1) a b).2)
          go_roundw
          case rel => exact ⟨k + 1, W3.heap.size, by omega, rfl, hs3, by rw [e0, show ((r : Int) - ((k + 1 : Nat) : Int)) = (r : Int) - (k : Int) - 1 by omega], e1, e2, by simp [fq0], by simp [fq1], by simp [fq2], hb3.trans (hb6.mono (by omega)), by have := hb6.size; omega, hJ _ _ _ h1 hb6⟩
          case measure =>
            show (slotInt _ _).toNat < (slotInt _ _).toNat
            rw [slotI_of e0, slotI_of z0]
            omega
        · gi_wp2
          refine bodyPost_ret (results_none rfl _ _ _) rfl ?_
          exact ⟨⟨_, rfl⟩, .inr ⟨pre, trivial, h1⟩⟩
    · obtain rfl : k = r := by omega
      gi_wp2
      go_end0
      exact ⟨⟨_, rfl⟩, .inl ⟨_, rfl, hJr⟩⟩
end
end Go.Proofs.YtlipbdiijjfheaaGreatDoor
