/-
  Package disk's disk as memory holds it: a block of five cells (bytes as they are written, as they last, the writes that wait, how many bytes they have, calls that are let), rows of its own; and what calls leave of it.
-/
import Derived.Test.YtinplpcobmbekaaDskRel
import Derived.Laws.CopyOwn
import Derived.Below
import Derived.Test.YtinplpcobmbekaaProg
import Derived.Handy
import Derived.Deep.QuietTactic
import Derived.WalkSpells
import Derived.WalkLawsBesides
import Derived.BigQuiet
import Derived.PlainAid
import Derived.Deep.RegionWith
import Derived.Laws.BitsAllLaws
import Derived.OwnWalk
import Derived.Laws.OwnMore
import Derived.Deep.RegionHeld3
import Derived.WalkSmall
import Derived.Deep.CutRange
import Derived.BigRegion
import Derived.OneCell
import Derived.Sort.Row
import Derived.ChangeSlices
import Derived.OpenShut
import Derived.Deep.AppendLies
import Derived.Laws.BytesArg
import Derived.Laws.CopyRow
import Derived.Laws.IdiomCopy
import Derived.Deep.OwnRows
import Derived.Deep.RegionLaw
namespace Go.Proofs.Ytinplpcobmbekaa
open Go.RowKit

/-- A write that waits: its place, its bytes, where they lie. -/
structure Wt where
  at_ : Nat
  bs : List Int
  v : Value

def qV (ws : List Wt) : List Value := ws.flatMap fun x => [.int .i64 (x.at_ : Int), x.v]

def flatW (ws : List Wt) : List (Int × Int) := ws.flatMap fun x => zipAt x.at_ x.bs

theorem qV_len (L : List Wt) : (qV L).length = L.length * 2 := by
  induction L with
  | nil => rfl
  | cons p L ih => unfold qV at ih ⊢; rw [List.flatMap_cons, List.length_append, ih]; simp; omega

theorem qV_app (L M : List Wt) : qV (L ++ M) = qV L ++ qV M := by simp [qV]

theorem flatW_app (L M : List Wt) : flatW (L ++ M) = flatW L ++ flatW M := by simp [flatW]

theorem flatW_one (x : Wt) : flatW [x] = zipAt x.at_ x.bs := by simp [flatW]

theorem flatW_next {L : List Wt} {i : Nat} (h : i < L.length) : flatW (L.take (i + 1)) = flatW (L.take i) ++ zipAt L[i].at_ L[i].bs := by
  rw [List.take_succ_eq_append_getElem h, flatW_app, flatW_one]

theorem flatW_few {L : List Wt} (h : ∀ x ∈ L, 0 < x.bs.length) : L.length ≤ (flatW L).length := by
  induction L with
  | nil => simp
  | cons x L ih =>
    have e : flatW (x :: L) = zipAt x.at_ x.bs ++ flatW L := rfl
    have := ih fun y hy => h y (by simp [hy])
    have := h x (by simp)
    rw [e, List.length_append, zipAt_len, List.length_cons]
    omega

theorem flatW_le (L : List Wt) (i : Nat) : (flatW (L.take i)).length ≤ (flatW L).length := by
  have e : flatW L = flatW (L.take i) ++ flatW (L.drop i) := by rw [← flatW_app, List.take_append_drop]
  rw [e, List.length_append]
  omega

theorem qV_at (L : List Wt) : ∀ (i : Nat) (h : i < L.length), (qV L)[i * 2]? = some (.int .i64 (L[i].at_ : Int)) ∧ (qV L)[i * 2 + 1]? = some L[i].v := by
  induction L with
  | nil => intro i h; simp at h
  | cons p L ih =>
    intro i h
    rw [show qV (p :: L) = .int .i64 (p.at_ : Int) :: p.v :: qV L from rfl]
    cases i with
    | zero => exact ⟨rfl, rfl⟩
    | succ i =>
      have := ih i (by simpa using h)
      rw [show (i + 1) * 2 = i * 2 + 1 + 1 by omega, show i * 2 + 1 + 1 + 1 = (i * 2 + 1) + 1 + 1 by omega]
      simpa only [List.getElem?_cons_succ, List.getElem_cons_succ] using this

theorem queue_at {w : World} {base g c m : Nat} {W : TypeId} {L : List Wt} (h : w.ownsRow base W 2 (.slice (some ⟨g, 0, none⟩) m c) m (qV L)) (j : Nat) (hj : j < L.length) : w.cell? ⟨g, j * 2, none⟩ = some (.int .i64 (L[j].at_ : Int)) ∧ w.cell? ⟨g, j * 2 + 1, none⟩ = some L[j].v := by
  have hl := h.1
  rw [qV_len] at hl
  obtain ⟨a, b⟩ := qV_at L j hj
  exact ⟨by rw [h.cellAt (j * 2) (by omega)]; exact a, by rw [h.cellAt (j * 2 + 1) (by omega)]; exact b⟩

/-- The block. -/
def KB (w : World) (P : Nat) (vn vl vw : Value) (m l : Int) : Prop := w.heap[P]? = some (.cells #[vn, vl, vw, .int .i64 m, .int .i64 l] 59 (0, 0))

theorem KB.cells {w : World} {P : Nat} {vn vl vw : Value} {m l : Int} (h : KB w P vn vl vw m l) :
    w.cell? ⟨P, 0, none⟩ = some vn ∧ w.cell? ⟨P, 1, none⟩ = some vl ∧ w.cell? ⟨P, 2, none⟩ = some vw ∧ w.cell? ⟨P, 3, none⟩ = some (.int .i64 m) ∧ w.cell? ⟨P, 4, none⟩ = some (.int .i64 l) := by
  unfold KB at h
  simp [World.cell?, h]

theorem KB.frozen {w : World} {P : Nat} {vn vl vw : Value} {m l : Int} (h : KB w P vn vl vw m l) (k : Nat) : w.frozen? ⟨P, k, none⟩ = false := by
  unfold KB at h
  simp [World.frozen?, h]

theorem KB.lt {w : World} {P : Nat} {vn vl vw : Value} {m l : Int} (h : KB w P vn vl vw m l) : P < w.heap.size := (Array.getElem?_eq_some_iff.1 h).1

theorem KB.keep {w w' : World} {P : Nat} {vn vl vw : Value} {m l : Int} (h : KB w P vn vl vw m l) (hb : w'.heap[P]? = w.heap[P]?) : KB w' P vn vl vw m l := hb.trans h

theorem KB.set2 {w : World} {P : Nat} {vn vl vw : Value} {m l : Int} (h : KB w P vn vl vw m l) (v : Value) : KB (w.setCell ⟨P, 2, none⟩ v) P vn vl v m l := (heap_set h v).trans rfl

theorem KB.set3 {w : World} {P : Nat} {vn vl vw : Value} {m l : Int} (h : KB w P vn vl vw m l) (k : Int) : KB (w.setCell ⟨P, 3, none⟩ (.int .i64 k)) P vn vl vw k l := (heap_set h _).trans rfl

theorem KB.set4 {w : World} {P : Nat} {vn vl vw : Value} {m l : Int} (h : KB w P vn vl vw m l) (k : Int) : KB (w.setCell ⟨P, 4, none⟩ (.int .i64 k)) P vn vl vw m k := (heap_set h _).trans rfl

/-- Where a write that waits lies. -/
structure WO (w : World) (n : Nat) (F : Nat → Prop) (P : Nat) (vn vl vw : Value) (x : Wt) (g c : Nat) : Prop where
  eq : x.v = .slice (some ⟨g, 0, none⟩) x.bs.length c
  own : F g
  np : g ≠ P
  nn : vn.ownBlock ≠ some g
  nl : vl.ownBlock ≠ some g
  nw : vw.ownBlock ≠ some g
  row : w.ownsRow 0 5 1 x.v x.bs.length (bV x.bs)
  pos : 0 < x.bs.length
  room : x.at_ + x.bs.length ≤ n
  byt : ∀ y ∈ x.bs, 0 ≤ y ∧ y < 256

/-- A disk at block P; F: the blocks that are its own. -/
structure KV (w : World) (P : Nat) (N M : List Int) (ws : List Wt) (m l : Int) (n : Nat) (F : Nat → Prop) (vn vl vw : Value) : Prop where
  blk : KB w P vn vl vw m l
  now : w.ownsRow 0 5 1 vn n (bV N)
  last : w.ownsRow 0 5 1 vl n (bV M)
  wait : w.ownsRow 0 62 2 vw ws.length (qV ws)
  each : ∀ x ∈ ws, ∃ g c, WO w n F P vn vl vw x g c
  fp : F P
  fn : ∀ z, vn.ownBlock = some z → F z ∧ z ≠ P ∧ vl.ownBlock ≠ some z ∧ vw.ownBlock ≠ some z
  fl : ∀ z, vl.ownBlock = some z → F z ∧ z ≠ P ∧ vw.ownBlock ≠ some z
  fw : ∀ z, vw.ownBlock = some z → F z ∧ z ≠ P
  lt : ∀ z, F z → z < w.heap.size
  nb : ∀ x ∈ N, 0 ≤ x ∧ x < 256
  lb : ∀ x ∈ M, 0 ≤ x ∧ x < 256
  size : n ≤ 1000000

section
variable {w w' : World} {P : Nat} {N M : List Int} {ws : List Wt} {m l : Int} {n : Nat} {F : Nat → Prop} {vn vl vw : Value}
theorem KV.nlen (h : KV w P N M ws m l n F vn vl vw) : N.length = n := by have := h.now.1; rw [bV_len] at this; omega
theorem KV.llen (h : KV w P N M ws m l n F vn vl vw) : M.length = n := by have := h.last.1; rw [bV_len] at this; omega
theorem KV.few (h : KV w P N M ws m l n F vn vl vw) : ws.length ≤ (flatW ws).length := flatW_few fun x hx => by
  obtain ⟨g, c, o⟩ := h.each x hx
  exact o.pos
theorem KV.room (h : KV w P N M ws m l n F vn vl vw) : ∀ x ∈ ws, x.at_ + x.bs.length ≤ n := fun x hx => by
  obtain ⟨g, c, o⟩ := h.each x hx
  exact o.room
theorem WO.keep {x : Wt} {g c : Nat} (h : WO w n F P vn vl vw x g c) (hb : w'.heap[g]? = w.heap[g]?) : WO w' n F P vn vl vw x g c :=
  ⟨h.eq, h.own, h.np, h.nn, h.nl, h.nw, own_same h.row fun z e => by
    rw [h.eq] at e
    have : g = z := by simpa [Value.ownBlock] using e
    rw [← this]
    exact hb, h.pos, h.room, h.byt⟩
theorem KV.keep (h : KV w P N M ws m l n F vn vl vw) (hb : ∀ z, F z → w'.heap[z]? = w.heap[z]?) (hs : w.heap.size ≤ w'.heap.size) : KV w' P N M ws m l n F vn vl vw :=
  ⟨h.blk.keep (hb P h.fp), own_same h.now fun z e => hb z (h.fn z e).1, own_same h.last fun z e => hb z (h.fl z e).1, own_same h.wait fun z e => hb z (h.fw z e).1,
    fun x hx => by
      obtain ⟨g, c, o⟩ := h.each x hx
      exact ⟨g, c, o.keep (hb g o.own)⟩, h.fp, h.fn, h.fl, h.fw, fun z hz => Nat.lt_of_lt_of_le (h.lt z hz) hs, h.nb, h.lb, h.size⟩
theorem KV.below (h : KV w P N M ws m l n F vn vl vw) (hb : Below w.heap.size w w') : KV w' P N M ws m l n F vn vl vw := h.keep (fun z hz => hb.block z (h.lt z hz)) hb.size
theorem KV.frm {G : Nat → Prop} (h : KV w P N M ws m l n F vn vl vw) (hf : Frm G w w') (hd : ∀ z, F z → ¬ G z) : KV w' P N M ws m l n F vn vl vw := h.keep (fun z hz => hf.block z (h.lt z hz) (hd z hz)) hf.size
theorem KV.drew (h : KV w P N M ws m l n F vn vl vw) : KV w.drew P N M ws m l n F vn vl vw := h.keep (fun _ _ => rfl) (Nat.le_refl _)
/-- The block written anew: calls that are let. -/
theorem KV.mark (h : KV w P N M ws m l n F vn vl vw) {m' l' : Int} (hb : KB w' P vn vl vw m' l') (ho : ∀ z, z ≠ P → w'.heap[z]? = w.heap[z]?) (hs : w.heap.size ≤ w'.heap.size) : KV w' P N M ws m' l' n F vn vl vw :=
  ⟨hb, own_same h.now fun z e => ho z (h.fn z e).2.1, own_same h.last fun z e => ho z (h.fl z e).2.1, own_same h.wait fun z e => ho z (h.fw z e).2,
    fun x hx => by
      obtain ⟨g, c, o⟩ := h.each x hx
      exact ⟨g, c, o.keep (ho g o.np)⟩, h.fp, h.fn, h.fl, h.fw, fun z hz => Nat.lt_of_lt_of_le (h.lt z hz) hs, h.nb, h.lb, h.size⟩
/-- Nothing waits any more. -/
theorem KV.empty (h : KV w P N M ws m l n F vn vl vw) {m' l' : Int} (hb : KB w' P vn vl (.slice none 0 0) m' l') (ho : ∀ z, z ≠ P → w'.heap[z]? = w.heap[z]?) (hs : w.heap.size ≤ w'.heap.size) : KV w' P N M [] m' l' n F vn vl (.slice none 0 0) :=
  ⟨hb, own_same h.now fun z e => ho z (h.fn z e).2.1, own_same h.last fun z e => ho z (h.fl z e).2.1, World.ownsRow_nil _ _ _ _, fun x hx => by simp at hx,
    h.fp, fun z e => ⟨(h.fn z e).1, (h.fn z e).2.1, (h.fn z e).2.2.1, by simp [Value.ownBlock]⟩,
    fun z e => ⟨(h.fl z e).1, (h.fl z e).2.1, by simp [Value.ownBlock]⟩, fun _ e => by simp [Value.ownBlock] at e, fun z hz => Nat.lt_of_lt_of_le (h.lt z hz) hs, h.nb, h.lb, h.size⟩
/-- The bytes as they are written are others. -/
theorem KV.nows (h : KV w P N M ws m l n F vn vl vw) {N' : List Int} (hr : w'.ownsRow 0 5 1 vn n (bV N')) (hg : w.grownBy w' vn.ownBlock) (hN : ∀ x ∈ N', 0 ≤ x ∧ x < 256) : KV w' P N' M ws m l n F vn vl vw ∧ Frm F w w' :=
  ⟨⟨h.blk.keep (hg.block P h.blk.lt fun e => (h.fn P e.symm).2.1 rfl), hr, own_same h.last fun z e => hg.block z (h.lt z (h.fl z e).1) fun e' => (h.fn z e'.symm).2.2.1 e, own_same h.wait fun z e => hg.block z (h.lt z (h.fw z e).1) fun e' => (h.fn z e'.symm).2.2.2 e,
    fun x hx => by
      obtain ⟨g, c, o⟩ := h.each x hx
      exact ⟨g, c, o.keep (hg.block g (h.lt g o.own) fun e => o.nn e.symm)⟩,
    h.fp, h.fn, h.fl, h.fw, fun z hz => Nat.lt_of_lt_of_le (h.lt z hz) hg.size, hN, h.lb, h.size⟩, Frm.of_grown hg fun z e => .inl (h.fn z e).1⟩
/-- The bytes that last are others. -/
theorem KV.lasts (h : KV w P N M ws m l n F vn vl vw) {M' : List Int} (hr : w'.ownsRow 0 5 1 vl n (bV M')) (hg : w.grownBy w' vl.ownBlock) (hM : ∀ x ∈ M', 0 ≤ x ∧ x < 256) : KV w' P N M' ws m l n F vn vl vw ∧ Frm F w w' :=
  ⟨⟨h.blk.keep (hg.block P h.blk.lt fun e => (h.fl P e.symm).2.1 rfl), own_same h.now fun z e => hg.block z (h.lt z (h.fn z e).1) fun e' => (h.fn z e).2.2.1 e'.symm, hr, own_same h.wait fun z e => hg.block z (h.lt z (h.fw z e).1) fun e' => (h.fl z e'.symm).2.2 e,
    fun x hx => by
      obtain ⟨g, c, o⟩ := h.each x hx
      exact ⟨g, c, o.keep (hg.block g (h.lt g o.own) fun e => o.nl e.symm)⟩,
    h.fp, h.fn, h.fl, h.fw, fun z hz => Nat.lt_of_lt_of_le (h.lt z hz) hg.size, h.nb, hM, h.size⟩, Frm.of_grown hg fun z e => .inl (h.fl z e).1⟩
end

/-- How the calls that are let are counted: by the document; by package disk. -/
def LeftR (sl : Int) (sd : Bool) (l : Int) : Prop := sd = decide (l = 0) ∧ (sd = false → (0 < sl → l = sl) ∧ (sl ≤ 0 → l < 0)) ∧ -9223372036854775808 ≤ l ∧ l ≤ 9223372036854775807

def cntL (l : Int) : Int := if 0 < l then l - 1 else l

theorem leftR_cnt {s : DS} {l : Int} (h : LeftR s.left s.dead l) (hd : s.dead = false) : LeftR s.cnt.left s.cnt.dead (cntL l) := by
  obtain ⟨h1, h2, h3, h4⟩ := h
  obtain ⟨a, b⟩ := h2 hd
  rw [hd] at h1
  have hl : ¬ l = 0 := of_decide_eq_false h1.symm
  unfold DS.cnt cntL
  by_cases h0 : 0 < s.left
  · have e := a h0
    rw [if_pos h0, if_pos (by omega)]
    refine ⟨by simp only [e], fun hx => ⟨fun _ => by simp only; omega, fun hy => ?_⟩, by omega, by omega⟩
    simp only [decide_eq_false_iff_not] at hx
    simp only at hy
    omega
  · have e := b (by omega)
    rw [if_neg h0, if_neg (by omega)]
    exact ⟨by rw [hd, decide_eq_false hl], fun _ => ⟨fun q => absurd q h0, fun _ => e⟩, by omega, by omega⟩

theorem leftR_stop {s : DS} {k : Int} (hd : s.dead = false) (k1 : -9223372036854775808 ≤ k) (k2 : k ≤ 9223372036854775807) : LeftR (s.stop k).left (s.stop k).dead k := by
  unfold DS.stop
  rw [hd]
  refine ⟨by simp, fun hx => ⟨fun hy => ?_, fun hy => ?_⟩, k1, k2⟩ <;> simp only [Bool.false_or, decide_eq_false_iff_not] at hx <;> simp only at hy ⊢ <;> omega

theorem leftR_stopped {s : DS} {l k : Int} (h : LeftR s.left s.dead l) (hd : s.dead = true) : LeftR (s.stop k).left (s.stop k).dead l := by
  obtain ⟨h1, h2, h3, h4⟩ := h
  unfold DS.stop
  rw [hd] at h1 ⊢
  exact ⟨by rw [← h1]; rfl, fun hx => by simp at hx, h3, h4⟩

theorem leftR_live : LeftR (-1) false (-1) := ⟨by decide, fun _ => ⟨fun h => by omega, fun _ => by omega⟩, by omega, by omega⟩

/-- Package disk's disk: blocks of F are its own. -/
def CD (w : World) (P : Nat) (s : DS) (n : Nat) (F : Nat → Prop) : Prop :=
  ∃ vn vl vw ws l, KV w P s.now s.last ws (s.waits.length : Int) l n F vn vl vw ∧ s.waits = flatW ws ∧ s.now = puts s.last s.waits ∧ LeftR s.left s.dead l ∧ s.Ok n ∧ s.waits.length ≤ 2000000000

theorem CD.frm {w w' : World} {P : Nat} {s : DS} {n : Nat} {F G : Nat → Prop} (h : CD w P s n F) (hf : Frm G w w') (hd : ∀ z, F z → ¬ G z) : CD w' P s n F := by
  obtain ⟨vn, vl, vw, ws, l, k, r⟩ := h
  exact ⟨vn, vl, vw, ws, l, k.frm hf hd, r⟩

theorem CD.below {w w' : World} {P : Nat} {s : DS} {n : Nat} {F : Nat → Prop} (h : CD w P s n F) (hf : Below w.heap.size w w') : CD w' P s n F := by
  obtain ⟨vn, vl, vw, ws, l, k, r⟩ := h
  exact ⟨vn, vl, vw, ws, l, k.below hf, r⟩

theorem CD.lt {w : World} {P : Nat} {s : DS} {n : Nat} {F : Nat → Prop} (h : CD w P s n F) : ∀ z, F z → z < w.heap.size := by
  obtain ⟨vn, vl, vw, ws, l, k, r⟩ := h
  exact k.lt

theorem CD.ok {w : World} {P : Nat} {s : DS} {n : Nat} {F : Nat → Prop} (h : CD w P s n F) : s.Ok n := by
  obtain ⟨vn, vl, vw, ws, l, k, -, -, -, r, -⟩ := h
  exact r

end Go.Proofs.Ytinplpcobmbekaa
