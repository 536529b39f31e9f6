/-
  A disk as memory holds it: a block of five cells (bytes as they are written, as they last, what waits, calls that are let, whether it is dead), three rows of its own; and what a call that writes in some blocks alone leaves. No condition beyond those written.
-/
import Derived.Test.YtinplpcobmbekaaDiskMath
import Derived.Laws.CopyOwn
import Derived.Below
import Derived.Test.YtinplpcobmbekaaProg
import Derived.Handy
import Derived.Deep.QuietTactic
import Derived.WalkSpells
import Derived.WalkLawsBesides
import Derived.BigQuiet
import Derived.PlainAid
import Derived.Deep.RegionWith
import Derived.Laws.BitsAllLaws
import Derived.OwnWalk
import Derived.Laws.OwnMore
import Derived.Deep.RegionHeld3
import Derived.WalkSmall
import Derived.Deep.CutRange
import Derived.BigRegion
import Derived.OneCell
import Derived.Sort.Row
import Derived.ChangeSlices
import Derived.OpenShut
import Derived.Deep.AppendLies
import Derived.Laws.BytesArg
import Derived.Laws.CopyRow
import Derived.Laws.IdiomCopy
import Derived.Deep.OwnRows
import Derived.Deep.RegionLaw
namespace Go.Proofs.Ytinplpcobmbekaa
open Go.RowKit

/-- Only blocks of F are written, others may be new. -/
structure Frm (F : Nat → Prop) (w w' : World) : Prop where
  os : w'.os = w.os
  tape : w'.tape = w.tape
  output : w'.output = w.output
  size : w.heap.size ≤ w'.heap.size
  block : ∀ k, k < w.heap.size → ¬ F k → w'.heap[k]? = w.heap[k]?

theorem Frm.refl (F : Nat → Prop) (w : World) : Frm F w w := ⟨rfl, rfl, rfl, Nat.le_refl _, fun _ _ _ => rfl⟩

theorem Frm.trans {F G : Nat → Prop} {a b c : World} (h : Frm F a b) (k : Frm G b c) (hG : ∀ j, G j → F j ∨ a.heap.size ≤ j) : Frm F a c :=
  ⟨k.os.trans h.os, k.tape.trans h.tape, k.output.trans h.output, Nat.le_trans h.size k.size, fun j hj hF => (k.block j (Nat.lt_of_lt_of_le hj h.size) fun hg => (hG j hg).elim hF (by omega)).trans (h.block j hj hF)⟩

theorem Frm.of_below {F : Nat → Prop} {w w' : World} (h : Below w.heap.size w w') : Frm F w w' := ⟨h.os, h.tape, h.output, h.size, fun k hk _ => h.block k hk⟩

theorem Frm.of_grown {F : Nat → Prop} {w w' : World} {r : Option Nat} (h : w.grownBy w' r) (hr : ∀ z, r = some z → F z ∨ w.heap.size ≤ z) : Frm F w w' :=
  ⟨h.os, h.tape, h.output, h.size, fun k hk hF => h.block k hk fun e => (hr k e.symm).elim hF (by omega)⟩

theorem Frm.set {F : Nat → Prop} {w : World} {p : Addr} (hp : F p.block) (v : Value) : Frm F w (w.setCell p v) :=
  ⟨rfl, rfl, rfl, by simp [World.setCell], fun k _ hF => Below.heap_setCell _ _ _ _ (fun e => hF (e ▸ hp))⟩

theorem Frm.below {F : Nat → Prop} {B : Nat} {w w' : World} (h : Frm F w w') (hF : ∀ k, F k → B ≤ k) (hB : B ≤ w.heap.size) : Below B w w' := ⟨h.os, h.tape, h.output, h.size, fun k hk => h.block k (by omega) fun hf => by have := hF k hf; omega⟩

theorem Frm.mono {F G : Nat → Prop} {w w' : World} (h : Frm F w w') (hG : ∀ k, F k → G k) : Frm G w w' := ⟨h.os, h.tape, h.output, h.size, fun k hk hF => h.block k hk fun hf => hF (hG k hf)⟩

/-- Bytes, and what waits, as values. -/
def bV (L : List Int) : List Value := L.map (Value.int .u8)

def wV (L : List (Int × Int)) : List Value := L.flatMap fun p => [.int .i64 p.1, .int .u8 p.2]

theorem bV_len (L : List Int) : (bV L).length = L.length := by simp [bV]

theorem wV_len (L : List (Int × Int)) : (wV L).length = L.length * 2 := by
  induction L with
  | nil => rfl
  | cons p L ih => unfold wV at ih ⊢; rw [List.flatMap_cons, List.length_append, ih]; simp; omega

theorem wV_app (L M : List (Int × Int)) : wV (L ++ M) = wV L ++ wV M := by simp [wV]

theorem wV_at (L : List (Int × Int)) : ∀ (i : Nat) (h : i < L.length), (wV L)[i * 2]? = some (.int .i64 L[i].1) ∧ (wV L)[i * 2 + 1]? = some (.int .u8 L[i].2) := by
  induction L with
  | nil => intro i h; simp at h
  | cons p L ih =>
    intro i h
    rw [show wV (p :: L) = .int .i64 p.1 :: .int .u8 p.2 :: wV L from rfl]
    cases i with
    | zero => exact ⟨rfl, rfl⟩
    | succ i =>
      have := ih i (by simpa using h)
      rw [show (i + 1) * 2 = i * 2 + 1 + 1 by omega, show i * 2 + 1 + 1 + 1 = (i * 2 + 1) + 1 + 1 by omega]
      simpa only [List.getElem?_cons_succ, List.getElem_cons_succ] using this

/-- The block. -/
def DB (w : World) (P : Nat) (T : TypeId) (vn vl vw : Value) (l : Int) (d : Bool) : Prop := w.heap[P]? = some (.cells #[vn, vl, vw, .int .i64 l, .bool d] T (0, 0))

theorem DB.cells {w : World} {P : Nat} {T : TypeId} {vn vl vw : Value} {l : Int} {d : Bool} (h : DB w P T vn vl vw l d) :
    w.cell? ⟨P, 0, none⟩ = some vn ∧ w.cell? ⟨P, 1, none⟩ = some vl ∧ w.cell? ⟨P, 2, none⟩ = some vw ∧ w.cell? ⟨P, 3, none⟩ = some (.int .i64 l) ∧ w.cell? ⟨P, 4, none⟩ = some (.bool d) := by
  unfold DB at h
  simp [World.cell?, h]

theorem DB.frozen {w : World} {P : Nat} {T : TypeId} {vn vl vw : Value} {l : Int} {d : Bool} (h : DB w P T vn vl vw l d) (k : Nat) : w.frozen? ⟨P, k, none⟩ = false := by
  unfold DB at h
  simp [World.frozen?, h]

theorem DB.lt {w : World} {P : Nat} {T : TypeId} {vn vl vw : Value} {l : Int} {d : Bool} (h : DB w P T vn vl vw l d) : P < w.heap.size := (Array.getElem?_eq_some_iff.1 h).1

theorem DB.keep {w w' : World} {P : Nat} {T : TypeId} {vn vl vw : Value} {l : Int} {d : Bool} (h : DB w P T vn vl vw l d) (hb : w'.heap[P]? = w.heap[P]?) : DB w' P T vn vl vw l d := hb.trans h

theorem heap_set {w : World} {P k : Nat} {vs : Array Value} {T : TypeId} {f : Nat × Nat} (h : w.heap[P]? = some (.cells vs T f)) (v : Value) : (w.setCell ⟨P, k, none⟩ v).heap[P]? = some (.cells (vs.setIfInBounds k v) T f) := by
  simp [World.setCell, Array.getElem?_modify, h]

theorem DB.set2 {w : World} {P : Nat} {T : TypeId} {vn vl vw : Value} {l : Int} {d : Bool} (h : DB w P T vn vl vw l d) (v : Value) : DB (w.setCell ⟨P, 2, none⟩ v) P T vn vl v l d := (heap_set h v).trans rfl

theorem DB.set3 {w : World} {P : Nat} {T : TypeId} {vn vl vw : Value} {l : Int} {d : Bool} (h : DB w P T vn vl vw l d) (m : Int) : DB (w.setCell ⟨P, 3, none⟩ (.int .i64 m)) P T vn vl vw m d := (heap_set h _).trans rfl

theorem DB.set4 {w : World} {P : Nat} {T : TypeId} {vn vl vw : Value} {l : Int} {d : Bool} (h : DB w P T vn vl vw l d) (b : Bool) : DB (w.setCell ⟨P, 4, none⟩ (.bool b)) P T vn vl vw l b := (heap_set h _).trans rfl

/-- A disk at block P; F: the blocks that are its own. -/
structure DskV (T W B : TypeId) (w : World) (P : Nat) (s : DS) (n : Nat) (F : Nat → Prop) (vn vl vw : Value) : Prop where
  blk : DB w P T vn vl vw s.left s.dead
  now : w.ownsRow 0 B 1 vn n (bV s.now)
  last : w.ownsRow 0 B 1 vl n (bV s.last)
  wait : w.ownsRow 0 W 2 vw s.waits.length (wV s.waits)
  fp : F P
  fn : ∀ z, vn.ownBlock = some z → F z ∧ z ≠ P ∧ vl.ownBlock ≠ some z ∧ vw.ownBlock ≠ some z
  fl : ∀ z, vl.ownBlock = some z → F z ∧ z ≠ P ∧ vw.ownBlock ≠ some z
  fw : ∀ z, vw.ownBlock = some z → F z ∧ z ≠ P
  lt : ∀ z, F z → z < w.heap.size
  ok : s.Ok n

def Dsk (T W B : TypeId) (w : World) (P : Nat) (s : DS) (n : Nat) (F : Nat → Prop) : Prop := ∃ vn vl vw, DskV T W B w P s n F vn vl vw

theorem own_same {w w' : World} {base : Nat} {e : TypeId} {size : Nat} {v : Value} {n : Nat} {xs : List Value} (h : w.ownsRow base e size v n xs) (hb : ∀ z, v.ownBlock = some z → w'.heap[z]? = w.heap[z]?) : w'.ownsRow base e size v n xs := by
  refine ⟨h.1, ?_⟩
  rcases h.2 with hn | ⟨g, cap, cur, rfl, hb2, hgg, rest⟩
  · exact .inl hn
  · exact .inr ⟨g, cap, cur, rfl, hb2, (hb g rfl).trans hgg, rest⟩

theorem DskV.keep {T W B : TypeId} {w w' : World} {P : Nat} {s : DS} {n : Nat} {F : Nat → Prop} {vn vl vw : Value} (h : DskV T W B w P s n F vn vl vw) (hb : ∀ z, F z → w'.heap[z]? = w.heap[z]?) (hs : w.heap.size ≤ w'.heap.size) : DskV T W B w' P s n F vn vl vw :=
  ⟨h.blk.keep (hb P h.fp), own_same h.now fun z e => hb z (h.fn z e).1, own_same h.last fun z e => hb z (h.fl z e).1, own_same h.wait fun z e => hb z (h.fw z e).1, h.fp, h.fn, h.fl, h.fw, fun z hz => Nat.lt_of_lt_of_le (h.lt z hz) hs, h.ok⟩

/-- A disk whose blocks nobody wrote is as it was. -/
theorem Dsk.frm {T W B : TypeId} {w w' : World} {P : Nat} {s : DS} {n : Nat} {F G : Nat → Prop} (h : Dsk T W B w P s n F) (hf : Frm G w w') (hd : ∀ z, F z → ¬ G z) : Dsk T W B w' P s n F := by
  obtain ⟨vn, vl, vw, h⟩ := h
  exact ⟨vn, vl, vw, h.keep (fun z hz => hf.block z (h.lt z hz) (hd z hz)) hf.size⟩

theorem Dsk.below {T W B : TypeId} {w w' : World} {P : Nat} {s : DS} {n : Nat} {F : Nat → Prop} (h : Dsk T W B w P s n F) (hf : Below w.heap.size w w') : Dsk T W B w' P s n F := h.frm (Frm.of_below (F := fun _ => False) hf) fun _ _ h => h

theorem Dsk.lt {T W B : TypeId} {w : World} {P : Nat} {s : DS} {n : Nat} {F : Nat → Prop} (h : Dsk T W B w P s n F) : ∀ z, F z → z < w.heap.size := by
  obtain ⟨vn, vl, vw, h⟩ := h
  exact h.lt

theorem Dsk.ok {T W B : TypeId} {w : World} {P : Nat} {s : DS} {n : Nat} {F : Nat → Prop} (h : Dsk T W B w P s n F) : s.Ok n := by
  obtain ⟨vn, vl, vw, h⟩ := h
  exact h.ok

/-- What a call on a disk leaves: the disk in another state, its blocks and new ones alone written. -/
def Then (T W B : TypeId) (w : World) (P : Nat) (s : DS) (n : Nat) (F : Nat → Prop) (w' : World) : Prop := ∃ F', Dsk T W B w' P s n F' ∧ Frm F w w' ∧ ∀ k, F' k → F k ∨ w.heap.size ≤ k

theorem bytes_at {w : World} {base g c m : Nat} {B : TypeId} {L : List Int} (h : w.ownsRow base B 1 (.slice (some ⟨g, 0, none⟩) m c) m (bV L)) (j : Nat) (hj : j < L.length) : w.cell? ⟨g, j, none⟩ = some (.int .u8 L[j]) := by
  rw [h.cellAt j (by have := h.1; rw [bV_len] at this; omega)]
  simp [bV, hj]

theorem waits_at {w : World} {base g c m : Nat} {W : TypeId} {L : List (Int × Int)} (h : w.ownsRow base W 2 (.slice (some ⟨g, 0, none⟩) m c) m (wV L)) (j : Nat) (hj : j < L.length) : w.cell? ⟨g, j * 2, none⟩ = some (.int .i64 L[j].1) ∧ w.cell? ⟨g, j * 2 + 1, none⟩ = some (.int .u8 L[j].2) := by
  have hl := h.1
  rw [wV_len] at hl
  obtain ⟨a, b⟩ := wV_at L j hj
  exact ⟨by rw [h.cellAt (j * 2) (by omega)]; exact a, by rw [h.cellAt (j * 2 + 1) (by omega)]; exact b⟩

/-- The block written anew: calls that are let, death. -/
theorem DskV.mark {T W B : TypeId} {w w' : World} {P : Nat} {s : DS} {n : Nat} {F : Nat → Prop} {vn vl vw : Value} (h : DskV T W B w P s n F vn vl vw) {l : Int} {d : Bool} (hl : -1 ≤ l ∧ l ≤ 9223372036854775807) (hb : DB w' P T vn vl vw l d)
    (ho : ∀ z, z ≠ P → w'.heap[z]? = w.heap[z]?) (hs : w.heap.size ≤ w'.heap.size) : DskV T W B w' P ⟨s.now, s.last, s.waits, l, d⟩ n F vn vl vw :=
  ⟨hb, own_same h.now fun z e => ho z (h.fn z e).2.1, own_same h.last fun z e => ho z (h.fl z e).2.1, own_same h.wait fun z e => ho z (h.fw z e).2, h.fp, h.fn, h.fl, h.fw, fun z hz => Nat.lt_of_lt_of_le (h.lt z hz) hs,
    ⟨h.ok.now, h.ok.last, h.ok.nb, h.ok.lb, h.ok.wb, hl, h.ok.size⟩⟩

theorem set_far (w : World) (P k : Nat) (v : Value) : ∀ z, z ≠ P → (w.setCell ⟨P, k, none⟩ v).heap[z]? = w.heap[z]? := fun _ hz => Below.heap_setCell _ _ _ _ hz

theorem set_size (w : World) (p : Addr) (v : Value) : w.heap.size ≤ (w.setCell p v).heap.size := by simp [World.setCell]

theorem row_any {w : World} {base : Nat} {e : TypeId} {size n : Nat} {v : Value} {xs : List Value} (h : w.ownsRow base e size v n xs) : ∃ p c, v = .slice p n c := by
  rcases h.2 with ⟨rfl, h0⟩ | ⟨g, cap, cur, rfl, _⟩
  · exact ⟨none, 0, by rw [h0]⟩
  · exact ⟨_, _, rfl⟩

/-- Nothing waits any more. -/
theorem DskV.empty {T W B : TypeId} {w w' : World} {P : Nat} {s : DS} {n : Nat} {F : Nat → Prop} {vn vl vw : Value} (h : DskV T W B w P s n F vn vl vw) {l : Int} {d : Bool} (hl : -1 ≤ l ∧ l ≤ 9223372036854775807) (hb : DB w' P T vn vl (.slice none 0 0) l d)
    (ho : ∀ z, z ≠ P → w'.heap[z]? = w.heap[z]?) (hs : w.heap.size ≤ w'.heap.size) : DskV T W B w' P ⟨s.now, s.last, [], l, d⟩ n F vn vl (.slice none 0 0) :=
  ⟨hb, own_same h.now fun z e => ho z (h.fn z e).2.1, own_same h.last fun z e => ho z (h.fl z e).2.1, World.ownsRow_nil _ _ _ _, h.fp, fun z e => ⟨(h.fn z e).1, (h.fn z e).2.1, (h.fn z e).2.2.1, by simp [Value.ownBlock]⟩,
    fun z e => ⟨(h.fl z e).1, (h.fl z e).2.1, by simp [Value.ownBlock]⟩, fun _ e => by simp [Value.ownBlock] at e, fun z hz => Nat.lt_of_lt_of_le (h.lt z hz) hs,
    ⟨h.ok.now, h.ok.last, h.ok.nb, h.ok.lb, fun p hp => by simp at hp, hl, h.ok.size⟩⟩

/-- string(b[i:i+j]), b a row of bytes. -/
theorem str_of_row {w : World} {base g c n : Nat} {L : List Int} (h : w.ownsRow base 5 1 (.slice (some ⟨g, 0, none⟩) n c) n (bV L)) (i j cap : Nat) (hij : i + j ≤ n) :
    (convert 30 9 (.slice (some ⟨g, i, none⟩) j cap)).run Try.prog w = .ok (.string (strOfNums ((L.drop i).take j))) w := by
  have hl : L.length = n := by have := h.1; rw [bV_len] at this; omega
  refine run_convert_bytes_arg (P := Try.prog) w 30 5 Try.underlying30 Try.underlying5 g i j cap _ (by simp; omega) (fun k hk => ?_) 9 Try.underlying9
  rw [bytes_at h (i + k) (by omega)]
  simp only [List.getD_eq_getElem?_getD, List.getElem?_take, List.getElem?_drop]
  rw [if_pos hk, List.getElem?_eq_getElem (by omega)]
  rfl

theorem str_of_none (w : World) (j c : Nat) : (convert 30 9 (.slice none j c)).run Try.prog w = .ok (.string ByteArray.empty) w := run_convert_bytes_nil (P := Try.prog) w 30 5 Try.underlying30 Try.underlying5 j c 9 Try.underlying9

theorem grown_refl (w : World) (r : Option Nat) : w.grownBy w r := ⟨rfl, rfl, rfl, Nat.le_refl _, fun _ _ _ => rfl⟩

/-- copy of one row over another of the same length, as a step of a region that draws its order. -/
theorem step_copy_all {P : Program} {ops : Array Oper} {o : Oper} {a : Act} {w : World} {K : Act → World → Prop} {Q : Exit → Act → World → Prop} {E : Prop} (hgd : o.guard = none) (d s : Operand) (dT sT : TypeId)
    (ho : o.op = .call { callee := .builtin .copy, args := #[d, s], argTypes := #[dT, sT] }) (elem : TypeId) (hu : P.underlying dT = some (.slice elem)) (hsz : (P.info? elem).map (·.size) = some 1)
    (bD bS : Nat) (n c1 c2 : Nat) (dp sp : Option Addr) (xs ys : List Value) (hd : a.eval d = .slice dp n c1) (hs : a.eval s = .slice sp n c2) (hD : w.ownsRow bD elem 1 (.slice dp n c1) n xs) (hS : w.ownsRow bS elem 1 (.slice sp n c2) n ys) (h1 : ∀ v ∈ ys, v.oneCell' = true)
    (h : ∀ w', w'.ownsRow bD elem 1 (.slice dp n c1) n ys → w.grownBy w' (Value.slice dp n c1).ownBlock → K (a.put o.dst (goInt n)) w') :
    if Region.wanted o (yielded ops a.tmps) = true then Oper.wp P o a w K Q else E := by
  have hw : Region.wanted o (yielded ops a.tmps) = true := by simp [Region.wanted, hgd]
  rw [if_pos hw]
  have hx := hD.1
  have hy := hS.1
  by_cases h0 : n = 0
  · subst h0
    obtain rfl : xs = [] := List.eq_nil_of_length_eq_zero (by omega)
    obtain rfl : ys = [] := List.eq_nil_of_length_eq_zero (by omega)
    have hrun := run_copy_none (P := P) w dT sT o.type elem dp sp 0 c1 0 c2 hu hsz rfl
    unfold Oper.wp
    simp [execOp, ho, resolve, invoke, builtin, hd, hs, hrun, Result.andThen]
    exact h w hD (grown_refl _ _)
  · have hS2 := hS
    rcases hD.2 with ⟨e, e0⟩ | ⟨g, cap, cur, e, hb, hg, hnc, hcm, hcs, ht⟩
    · exact absurd e0 h0
    rcases hS.2 with ⟨e', e0⟩ | ⟨g', cap', cur', e', hb', hg', hnc', hcm', hcs', ht'⟩
    · exact absurd e0 h0
    simp only [Value.slice.injEq] at e e'
    obtain ⟨rfl, -, rfl⟩ := e
    obtain ⟨rfl, -, rfl⟩ := e'
    have hl : ys.length = n := by omega
    have hrun := run_copy_row (P := P) w dT sT o.type elem g 0 n c1 ⟨g', 0, none⟩ n c2 cur elem ys hu hsz hg (by rw [hl]; simp) (hS2.cells rfl) (by omega) h1
    unfold Oper.wp
    simp only [List.take_zero, List.nil_append, Nat.zero_add, hl] at hrun
    simp [execOp, ho, resolve, invoke, builtin, hd, hs, hrun, Result.andThen]
    refine h _ ⟨by omega, .inr ⟨g, c1, _, rfl, hb, setRow_heap w g cur _ elem (0, 0) hg, hnc, hcm, ?_, ?_⟩⟩ ⟨rfl, rfl, rfl, by simp [World.setRow], fun k hk hr => setRow_other w g k _ (fun e => hr (by rw [e]; rfl))⟩
    · simp only [List.size_toArray, List.length_append, List.length_drop, Array.length_toList]
      omega
    · rw [show n * 1 = ys.length by omega]
      simp

/-- The bytes that last are others. -/
theorem DskV.lasts {T W B : TypeId} {w w' : World} {P : Nat} {s : DS} {n : Nat} {F : Nat → Prop} {vn vl vw : Value} (h : DskV T W B w P s n F vn vl vw) {L : List Int} (hr : w'.ownsRow 0 B 1 vl n (bV L)) (hg : w.grownBy w' vl.ownBlock) (hL : ∀ x ∈ L, 0 ≤ x ∧ x < 256) : DskV T W B w' P ⟨s.now, L, s.waits, s.left, s.dead⟩ n F vn vl vw ∧ Frm F w w' :=
  ⟨⟨h.blk.keep (hg.block P h.blk.lt fun e => (h.fl P e.symm).2.1 rfl), own_same h.now fun z e => hg.block z (h.lt z (h.fn z e).1) fun e' => (h.fn z e).2.2.1 e'.symm, hr, own_same h.wait fun z e => hg.block z (h.lt z (h.fw z e).1) fun e' => (h.fl z e'.symm).2.2 e,
    h.fp, h.fn, h.fl, h.fw, fun z hz => Nat.lt_of_lt_of_le (h.lt z hz) hg.size, ⟨h.ok.now, by have := hr.1; rw [bV_len] at this; simpa using this, h.ok.nb, hL, h.ok.wb, h.ok.left, h.ok.size⟩⟩, Frm.of_grown hg fun z e => .inl (h.fl z e).1⟩

/-- The bytes as they are written are others. -/
theorem DskV.nows {T W B : TypeId} {w w' : World} {P : Nat} {s : DS} {n : Nat} {F : Nat → Prop} {vn vl vw : Value} (h : DskV T W B w P s n F vn vl vw) {L : List Int} (hr : w'.ownsRow 0 B 1 vn n (bV L)) (hg : w.grownBy w' vn.ownBlock) (hL : ∀ x ∈ L, 0 ≤ x ∧ x < 256) : DskV T W B w' P ⟨L, s.last, s.waits, s.left, s.dead⟩ n F vn vl vw ∧ Frm F w w' :=
  ⟨⟨h.blk.keep (hg.block P h.blk.lt fun e => (h.fn P e.symm).2.1 rfl), hr, own_same h.last fun z e => hg.block z (h.lt z (h.fl z e).1) fun e' => (h.fn z e'.symm).2.2.1 e, own_same h.wait fun z e => hg.block z (h.lt z (h.fw z e).1) fun e' => (h.fn z e'.symm).2.2.2 e,
    h.fp, h.fn, h.fl, h.fw, fun z hz => Nat.lt_of_lt_of_le (h.lt z hz) hg.size, ⟨by have := hr.1; rw [bV_len] at this; simpa using this, h.ok.last, hL, h.ok.lb, h.ok.wb, h.ok.left, h.ok.size⟩⟩, Frm.of_grown hg fun z e => .inl (h.fn z e).1⟩

theorem bV_set (L : List Int) (t : Nat) (x : Int) : (bV L).set t (.int .u8 x) = bV (L.set t x) := by simp [bV]

theorem row_some {w : World} {base : Nat} {e : TypeId} {size n c : Nat} {p : Option Addr} {xs : List Value} (h : w.ownsRow base e size (.slice p n c) n xs) (hn : 0 < n) : ∃ g, p = some ⟨g, 0, none⟩ := by
  rcases h.2 with ⟨_, h0⟩ | ⟨g, cap, cur, e, _⟩
  · omega
  · simp only [Value.slice.injEq] at e
    exact ⟨g, e.1⟩

theorem DskV.drew {T W B : TypeId} {w : World} {P : Nat} {s : DS} {n : Nat} {F : Nat → Prop} {vn vl vw : Value} (h : DskV T W B w P s n F vn vl vw) : DskV T W B w.drew P s n F vn vl vw := h.keep (fun _ _ => rfl) (Nat.le_refl _)

theorem bV_one (L : List Int) : ∀ v ∈ bV L, v.oneCell' = true := fun v hv => by
  obtain ⟨x, -, rfl⟩ := List.mem_map.1 hv
  rfl

theorem infoU8 : (Try.prog.info? 5).map (·.size) = some 1 := by kernel_rfl

/-- What a call tells that leaves the disk in another state. -/
def TellsD (T W B : TypeId) (P : Nat) (s : DS) (n : Nat) (F : Nat → Prop) (v : Value) (w : World) (e : Ending) (w' : World) : Prop :=
  e = .returned v ∧ ∃ F' vn vl vw, DskV T W B w' P s n F' vn vl vw ∧ Frm F w w' ∧ ∀ k, F' k → F k ∨ w.heap.size ≤ k

theorem Frm.drewR {F : Nat → Prop} {w w' : World} (h : Frm F w w') : Frm F w w'.drew := ⟨h.os, h.tape, h.output, h.size, h.block⟩

theorem Frm.drew {F : Nat → Prop} {w w' : World} (h : Frm F w.drew w') : Frm F w w' := ⟨h.os, h.tape, h.output, h.size, h.block⟩

/-- What waits lies in another row, or in the same one, longer. -/
theorem DskV.waits_to {T W B : TypeId} {w w' : World} {P : Nat} {s : DS} {n : Nat} {F : Nat → Prop} {vn vl vw : Value} (h : DskV T W B w P s n F vn vl vw) {g m c : Nat} {ws : List (Int × Int)} (hb : DB w' P T vn vl (.slice (some ⟨g, 0, none⟩) m c) s.left s.dead)
    (hr : w'.ownsRow 0 W 2 (.slice (some ⟨g, 0, none⟩) m c) ws.length (wV ws)) (ho : ∀ z, z < w.heap.size → z ≠ P → vw.ownBlock ≠ some z → w'.heap[z]? = w.heap[z]?) (hs : w.heap.size ≤ w'.heap.size) (hg : vw.ownBlock = some g ∨ w.heap.size ≤ g) (hw : ∀ p ∈ ws, 0 ≤ p.1 ∧ p.1 < n ∧ 0 ≤ p.2 ∧ p.2 < 256) :
    DskV T W B w' P ⟨s.now, s.last, ws, s.left, s.dead⟩ n (fun k => F k ∨ k = g) vn vl (.slice (some ⟨g, 0, none⟩) m c) := by
  have hgP : g ≠ P := fun e => hg.elim (fun e' => (h.fw g e').2 e) (fun e' => by have := h.lt P h.fp; omega)
  have hgN : ∀ z, vn.ownBlock = some z → z ≠ g := fun z e e' => hg.elim (fun q => (h.fn z e).2.2.2 (e' ▸ q)) (fun q => by have := h.lt z (h.fn z e).1; omega)
  have hgL : ∀ z, vl.ownBlock = some z → z ≠ g := fun z e e' => hg.elim (fun q => (h.fl z e).2.2 (e' ▸ q)) (fun q => by have := h.lt z (h.fl z e).1; omega)
  refine ⟨hb, own_same h.now fun z e => ho z (h.lt z (h.fn z e).1) (h.fn z e).2.1 (h.fn z e).2.2.2, own_same h.last fun z e => ho z (h.lt z (h.fl z e).1) (h.fl z e).2.1 (h.fl z e).2.2, hr, .inl h.fp,
    fun z e => ⟨.inl (h.fn z e).1, (h.fn z e).2.1, (h.fn z e).2.2.1, fun e' => hgN z e (by simpa [Value.ownBlock] using e'.symm)⟩, fun z e => ⟨.inl (h.fl z e).1, (h.fl z e).2.1, fun e' => hgL z e (by simpa [Value.ownBlock] using e'.symm)⟩,
    fun z e => ?_, fun z hz => ?_, ⟨h.ok.now, h.ok.last, h.ok.nb, h.ok.lb, hw, h.ok.left, h.ok.size⟩⟩
  · have : g = z := by simpa [Value.ownBlock] using e
    exact ⟨.inr this.symm, fun e' => hgP (this.trans e')⟩
  · rcases hz with hz | rfl
    · exact Nat.lt_of_lt_of_le (h.lt z hz) hs
    · exact (hr.lt z rfl).2

theorem wait_lie (w : World) (B : Nat) (h : w.heap.size = B) (x y : Int) (e : TypeId) : ∀ j u, ([.int .i64 x, .int .u8 y] : List Value)[j]? = some u → (w.alloc (.cells #[.int .i64 x, .int .u8 y] e)).cell? ((⟨B, 0, none⟩ : Addr).add j) = some u := by
  subst h
  intro j u hj
  match j, hj with
  | 0, hj => simp at hj; subst hj; simp [Addr.add]
  | 1, hj => simp at hj; subst hj; simp [Addr.add]

theorem wait_one (x y : Int) : ∀ u ∈ ([.int .i64 x, .int .u8 y] : List Value), u.oneCell' = true := by
  intro u hu
  simp at hu
  rcases hu with rfl | rfl <;> rfl

theorem wV_snoc (L : List (Int × Int)) (x y : Int) : wV (L ++ [(x, y)]) = wV L ++ [.int .i64 x, .int .u8 y] := wV_app L [(x, y)]

/-- A letter of a text of bytes. -/
theorem str_index (bs : List Int) (hb : ∀ x ∈ bs, 0 ≤ x ∧ x < 256) (i : Nat) (hi : i < bs.length) (w : World) : (Instr.index 9 (.string (strOfNums bs)) (.int .i64 (i : Int))).run Try.prog w = .ok (.int .u8 bs[i]) w := by
  have hs := strOfNums_size bs
  rw [run_index_string w 9 (strOfNums bs) .i64 (i : Int) Try.underlying9, dif_pos (by omega)]
  have := hb _ (List.getElem_mem hi)
  have e : ((strOfNums bs)[((i : Int)).toNat]'(by omega)).toNat = bs[i].toNat := by
    show (((bs.map fun n => UInt8.ofNat n.toNat).toArray)[((i : Int)).toNat]'(by simp; omega)).toNat = _
    simp
    omega
  rw [e, Int.toNat_of_nonneg this.1]

theorem far_keepD {w w6 : World} {row : Option Nat} {p : Addr} {v : Value} (hg : w.grownBy w6 row) (hne : some p.block ≠ row) (h : w.cell? p = some v ∧ w.frozen? p = false) : w6.cell? p = some v ∧ w6.frozen? p = false :=
  ⟨hg.cell h.1 hne, by rw [World.frozen?_of_block (hg.block p.block (World.block_lt_of_cell? _ _ h.1) hne)]; exact h.2⟩

theorem info_partsD {i? : Option TypeInfo} {z : Value} {s b : Nat} (h : i?.map (fun i => (i.zero, i.size, i.bytes)) = some (some z, s, b)) : ∃ i, i? = some i ∧ i.zero = some z ∧ i.size = s ∧ i.bytes = b := by
  cases i? with
  | none => simp at h
  | some i => simp at h; exact ⟨i, rfl, h.1, h.2.1, h.2.2⟩

/-- One byte more waits. -/
theorem DskV.pushed {T W B : TypeId} {w w6 : World} {P : Nat} {s : DS} {n : Nat} {F : Nat → Prop} {vn vl : Value} {o : Option Addr} {m cw : Nat} (h : DskV T W B w P s n F vn vl (.slice o m cw)) (em : s.waits.length = m) {x y : Int} {g6 c6 : Nat} {ob : Obj}
    (hgrow : (w.alloc ob).drew.grownBy w6 (Value.slice o m cw).ownBlock) (hown : w6.ownsRow 0 W 2 (.slice (some ⟨g6, 0, none⟩) (m + 1) c6) (m + 1) (wV s.waits ++ [.int .i64 x, .int .u8 y])) (hat : (Value.slice o m cw).ownBlock = some g6 ∨ g6 = w.heap.size + 1) (hx : 0 ≤ x ∧ x < n ∧ 0 ≤ y ∧ y < 256) :
    DskV T W B (w6.setCell ⟨P, 2, none⟩ (.slice (some ⟨g6, 0, none⟩) (m + 1) c6)) P ⟨s.now, s.last, s.waits ++ [(x, y)], s.left, s.dead⟩ n (fun k => F k ∨ k = g6) vn vl (.slice (some ⟨g6, 0, none⟩) (m + 1) c6) ∧ Frm F w (w6.setCell ⟨P, 2, none⟩ (.slice (some ⟨g6, 0, none⟩) (m + 1) c6)) ∧ ∀ k, (F k ∨ k = g6) → F k ∨ w.heap.size ≤ k := by
  have hb : ∀ z, z < w.heap.size → (Value.slice o m cw).ownBlock ≠ some z → w6.heap[z]? = w.heap[z]? := fun z hz hne => (hgrow.block z (by simp; omega) (fun e => hne e.symm)).trans (Below.heap_alloc _ _ _ hz)
  have hP := hb P h.blk.lt fun e => (h.fw P e).2 rfl
  have hs : w.heap.size ≤ w6.heap.size := Nat.le_trans (by simp) hgrow.size
  have hgP : g6 ≠ P := fun e => hat.elim (fun e' => (h.fw g6 e').2 e) (fun e' => by have := h.blk.lt; omega)
  have hl : (s.waits ++ [(x, y)]).length = m + 1 := by simp [em]
  refine ⟨h.waits_to ((h.blk.keep hP).set2 _) ?_ (fun z hz hzP hne => (set_far _ _ _ _ z hzP).trans (hb z hz hne)) (Nat.le_trans hs (set_size _ _ _)) (hat.imp id fun e => by omega) (fun p hp => ?_), ?_, fun k hk => hk.elim .inl fun e => ?_⟩
  · rw [hl, wV_snoc]
    exact own_same hown fun z e => set_far _ _ _ _ z (by have : g6 = z := by simpa [Value.ownBlock] using e
                                                         omega)
  · rcases List.mem_append.1 hp with hp | hp
    · exact h.ok.wb p hp
    · rw [List.mem_singleton] at hp
      subst hp
      exact hx
  · refine ⟨hgrow.os, hgrow.tape, hgrow.output, Nat.le_trans hs (set_size _ _ _), fun k hk hF => (set_far _ _ _ _ k fun e => hF (e ▸ h.fp)).trans (hb k hk fun e => hF (h.fw k e).1)⟩
  · subst e
    exact hat.imp (fun e => (h.fw k e).1) fun e => by omega

/-- What New tells. -/
def NewsD (T W B : TypeId) (s : DS) (n : Nat) (w : World) (e : Ending) (w' : World) : Prop :=
  ∃ P F vn vl vw, e = .returned (.pointer (some ⟨P, 0, none⟩)) ∧ DskV T W B w' P s n F vn vl vw ∧ Below w.heap.size w w' ∧ ∀ z, F z → w.heap.size ≤ z

def clampN (k : Int) : Nat := (min (max k 0) 1000000).toNat

theorem clamp_le (k : Int) : clampN k ≤ 1000000 := by unfold clampN; omega

theorem infoByte : (Try.prog.info? 5).map (fun i => (i.zero, i.size, i.bytes)) = some (some (.int .u8 0), 1, 1) := by kernel_rfl

/-- A disk just made: three blocks side by side, in either order. -/
theorem new_disk {T W B : TypeId} {w w' : World} {n P a b : Nat} (hn : n ≤ 1000000) (ha : w'.heap[a]? = some (.cells (madeCells #[.int .u8 0] n) B (0, 0))) (hb : w'.heap[b]? = some (.cells (madeCells #[.int .u8 0] n) B (0, 0)))
    (hP : DB w' P T (.slice (some ⟨a, 0, none⟩) n n) (.slice (some ⟨b, 0, none⟩) n n) (.slice none 0 0) (-1) false) (hab : a ≠ b) (h1 : a ≠ P) (h2 : b ≠ P) (l1 : w.heap.size ≤ a) (l2 : w.heap.size ≤ b) (l3 : w.heap.size ≤ P) :
    DskV T W B w' P (newD n) n (fun k => k = P ∨ k = a ∨ k = b) (.slice (some ⟨a, 0, none⟩) n n) (.slice (some ⟨b, 0, none⟩) n n) (.slice none 0 0) ∧ ∀ z, (z = P ∨ z = a ∨ z = b) → w.heap.size ≤ z := by
  have e : (madeCells #[Value.int .u8 0] n).toList = bV (List.replicate n 0) := by rw [toList_madeCells_one]; simp [bV]
  have row : ∀ g, w'.heap[g]? = some (.cells (madeCells #[.int .u8 0] n) B (0, 0)) → w'.ownsRow 0 B 1 (.slice (some ⟨g, 0, none⟩) n n) n (bV (List.replicate n 0)) := fun g hg =>
    ⟨by simp [bV], .inr ⟨g, n, _, rfl, Nat.zero_le _, hg, Nat.le_refl _, by unfold maxLen; omega, by rw [size_madeCells]; omega, by rw [e, Nat.mul_one]; exact List.take_of_length_le (by simp [bV])⟩⟩
  have lt : ∀ {g : Nat} {o : Obj}, w'.heap[g]? = some o → g < w'.heap.size := fun h => (Array.getElem?_eq_some_iff.1 h).1
  refine ⟨⟨hP, row a ha, row b hb, World.ownsRow_nil _ _ _ _, .inl rfl, fun z e => ?_, fun z e => ?_, fun z e => by simp [Value.ownBlock] at e, fun z hz => ?_, newD_ok n hn⟩, fun z hz => ?_⟩
  · have : a = z := by simpa [Value.ownBlock] using e
    subst this
    exact ⟨.inr (.inl rfl), h1, by simpa [Value.ownBlock] using fun e => hab e.symm, by simp [Value.ownBlock]⟩
  · have : b = z := by simpa [Value.ownBlock] using e
    subst this
    exact ⟨.inr (.inr rfl), h2, by simp [Value.ownBlock]⟩
  · rcases hz with rfl | rfl | rfl
    · exact hP.lt
    · exact lt ha
    · exact lt hb
  · rcases hz with rfl | rfl | rfl <;> assumption

end Go.Proofs.Ytinplpcobmbekaa
