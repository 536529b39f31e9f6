/-
  Package disk's disk beside the document's own, both of a law's own, in whatever memory.
-/
import Derived.Test.YtinplpcobmbekaaRDiskW
import Derived.Test.YtinplpcobmbekaaLScr
import Derived.Laws.CopyOwn
import Derived.Below
import Derived.Test.YtinplpcobmbekaaProg
import Derived.Handy
import Derived.Deep.QuietTactic
import Derived.WalkSpells
import Derived.WalkLawsBesides
import Derived.BigQuiet
import Derived.PlainAid
import Derived.Deep.RegionWith
import Derived.Laws.BitsAllLaws
import Derived.OwnWalk
import Derived.Laws.OwnMore
import Derived.Deep.RegionHeld3
import Derived.WalkSmall
import Derived.Deep.CutRange
import Derived.BigRegion
import Derived.OneCell
import Derived.Sort.Row
import Derived.ChangeSlices
import Derived.OpenShut
import Derived.Deep.AppendLies
import Derived.Laws.BytesArg
import Derived.Laws.CopyRow
import Derived.Laws.IdiomCopy
import Derived.Deep.OwnRows
import Derived.Deep.RegionLaw
import Derived.ChangeArms
namespace Go.Proofs.Ytinplpcobmbekaa
open Go.RowKit

/-- The document's own disk: blocks of G are its own. -/
def RD (w : World) (Q : Nat) (t : DS) (n : Nat) (G : Nat → Prop) : Prop := Dsk 48 74 5 w Q t n G

/-- Package disk's disk at block P, the document's own at block Q. -/
structure LR (B : Nat) (W w : World) (P : Nat) (s : DS) (n : Nat) (F : Nat → Prop) (Q : Nat) (t : DS) (G : Nat → Prop) : Prop where
  d : LD B W w P s n F
  r : RD w Q t n G
  gf : ∀ z, G z → B ≤ z
  apart : ∀ z, F z → ¬ G z

section
variable {B : Nat} {W w w' : World} {P : Nat} {s s' : DS} {n : Nat} {F F' : Nat → Prop} {Q : Nat} {t t' : DS} {G G' : Nat → Prop} {b : Nat} {o : OpD}
theorem LR.quiet (h : LR B W w P s n F Q t G) (hb : Below w.heap.size w w') : LR B W w' P s n F Q t G := ⟨h.d.quiet hb, Dsk.below h.r hb, h.gf, h.apart⟩
theorem LR.fst (h : LR B W w P s n F Q t G) (hc : CD w' P s' n F') (hf : Frm F w w') (hk : ∀ k, F' k → F k ∨ w.heap.size ≤ k) : LR B W w' P s' n F' Q t G :=
  ⟨h.d.step hc hf hk, Dsk.frm h.r hf fun z hz hz' => h.apart z hz' hz, h.gf, fun z hz hz' => (hk z hz).elim (fun e => h.apart z e hz') fun e => by have := Dsk.lt h.r z hz'; omega⟩
theorem LR.snd (h : LR B W w P s n F Q t G) (hr : RD w' Q t' n G') (hf : Frm G w w') (hk : ∀ k, G' k → G k ∨ w.heap.size ≤ k) : LR B W w' P s n F Q t' G' :=
  ⟨⟨h.d.cd.frm hf h.apart, h.d.bel.trans (hf.below h.gf h.d.size), h.d.fresh, Nat.le_trans h.d.size hf.size⟩, hr, fun z hz => (hk z hz).elim (h.gf z) fun e => Nat.le_trans h.d.size e,
    fun z hz hz' => (hk z hz').elim (h.apart z hz) fun e => by have := h.d.cd.lt z hz; omega⟩
/-- The same with a call beside them at block b. -/
structure LRO (B : Nat) (W w : World) (P : Nat) (s : DS) (n : Nat) (F : Nat → Prop) (Q : Nat) (t : DS) (G : Nat → Prop) (b : Nat) (o : OpD) : Prop where
  lr : LR B W w P s n F Q t G
  op : OpAt w b o
  fb : ¬ F b
  gb : ¬ G b
theorem LRO.quiet (h : LRO B W w P s n F Q t G b o) (hb : Below w.heap.size w w') : LRO B W w' P s n F Q t G b o := ⟨h.lr.quiet hb, h.op.keep hb, h.fb, h.gb⟩
theorem LRO.fst (h : LRO B W w P s n F Q t G b o) (hc : CD w' P s' n F') (hf : Frm F w w') (hk : ∀ k, F' k → F k ∨ w.heap.size ≤ k) : LRO B W w' P s' n F' Q t G b o :=
  ⟨h.lr.fst hc hf hk, h.op.frm hf h.fb, fun hz => (hk b hz).elim h.fb fun e => by have := h.op.lt; omega, h.gb⟩
theorem LRO.snd (h : LRO B W w P s n F Q t G b o) (hr : RD w' Q t' n G') (hf : Frm G w w') (hk : ∀ k, G' k → G k ∨ w.heap.size ≤ k) : LRO B W w' P s n F Q t' G' b o :=
  ⟨h.lr.snd hr hf hk, h.op.frm hf h.gb, h.fb, fun hz => (hk b hz).elim h.gb fun e => by have := h.op.lt; omega⟩
theorem LR.as (h : LR B W w P s n F Q t G) (e : s' = s) (e2 : t' = t) : LR B W w P s' n F Q t' G := e ▸ e2 ▸ h
end

/-- What a call of the document's own tells. -/
def TellsRD (Q : Nat) (t : DS) (n : Nat) (G : Nat → Prop) (v : Value) (w : World) (e : Ending) (w' : World) : Prop := e = .returned v ∧ ∃ G', RD w' Q t n G' ∧ Frm G w w' ∧ ∀ k, G' k → G k ∨ w.heap.size ≤ k

theorem tellsRD {Q : Nat} {t : DS} {n : Nat} {G : Nat → Prop} {v : Value} {w w' : World} {e : Ending} (h : RTells Q t n G v w e w') : TellsRD Q t n G v w e w' := by
  obtain ⟨rfl, G', vn, vl, vw, k, f, q⟩ := h
  exact ⟨rfl, G', ⟨vn, vl, vw, k⟩, f, q⟩

theorem d_write {w : World} {Q : Nat} {t : DS} {n : Nat} {G : Nat → Prop} (h : RD w Q t n G) (a : Int) (a1 : -9223372036854775808 ≤ a) (a2 : a ≤ 9223372036854775807) (bs : List Int) (hb : ∀ x ∈ bs, 0 ≤ x ∧ x < 256) (hl : bs.length ≤ 1000000000) (hw : t.waits.length ≤ 1000000000) :
    Calls Try.prog 33 #[.pointer (some ⟨Q, 0, none⟩), .int .i64 a, .string (strOfNums bs)] w fun e w' => TellsRD Q (wrS t n a bs) n G (.int .i64 (rdK t n a bs.length)) w e w' := by
  obtain ⟨vn, vl, vw, k⟩ := h
  exact (r_write k a a1 a2 bs hb hl hw).mono fun e w' h => tellsRD h

theorem d_sync {w : World} {Q : Nat} {t : DS} {n : Nat} {G : Nat → Prop} (h : RD w Q t n G) : Calls Try.prog 34 #[.pointer (some ⟨Q, 0, none⟩)] w fun e w' => TellsRD Q (syS t) n G (.int .i64 (syK t)) w e w' := by
  obtain ⟨vn, vl, vw, k⟩ := h
  exact (r_sync k).mono fun e w' h => tellsRD h

theorem d_crash {w : World} {Q : Nat} {t : DS} {n : Nat} {G : Nat → Prop} (h : RD w Q t n G) (k : Int) (k1 : -9223372036854775808 ≤ k) (k2 : k ≤ 9223372036854775807) : Calls Try.prog 36 #[.pointer (some ⟨Q, 0, none⟩), .int .i64 k] w fun e w' => TellsRD Q (t.crash k) n G (.tuple #[]) w e w' := by
  obtain ⟨vn, vl, vw, q⟩ := h
  exact (r_crash q k k1 k2).mono fun e w' h => tellsRD h

theorem d_stop {w : World} {Q : Nat} {t : DS} {n : Nat} {G : Nat → Prop} (h : RD w Q t n G) (m : Int) (m1 : -9223372036854775808 ≤ m) (m2 : m ≤ 9223372036854775807) : Calls Try.prog 35 #[.pointer (some ⟨Q, 0, none⟩), .int .i64 m] w fun e w' => TellsRD Q (t.stop m) n G (.tuple #[]) w e w' := by
  obtain ⟨vn, vl, vw, k⟩ := h
  refine (r_stop k m m1 m2).mono ?_
  rintro e w' ⟨rfl, h, f⟩
  exact ⟨rfl, G, ⟨vn, vl, vw, h⟩, f, fun z hz => .inl hz⟩

theorem d_read {w : World} {Q : Nat} {t : DS} {n : Nat} {G : Nat → Prop} (h : RD w Q t n G) (a m : Int) (a1 : -9223372036854775808 ≤ a) (a2 : a ≤ 9223372036854775807) (m1 : -9223372036854775808 ≤ m) (m2 : m ≤ 9223372036854775807) :
    Calls Try.prog 23 #[.pointer (some ⟨Q, 0, none⟩), .int .i64 a, .int .i64 m] w fun e w' => e = .returned (.tuple #[.string (strOfNums (rdL t n a m)), .int .i64 (rdK t n a m)]) ∧ w' = w := by
  obtain ⟨vn, vl, vw, k⟩ := h
  exact r_read k a m a1 a2 m1 m2

/-- What a law reads of the document's own disk by itself. -/
theorem d_cells {w : World} {Q : Nat} {t : DS} {n : Nat} {G : Nat → Prop} (h : RD w Q t n G) : (∃ p c, w.cell? ⟨Q, 0, none⟩ = some (.slice p n c)) ∧ (∃ p c, w.cell? ⟨Q, 2, none⟩ = some (.slice p t.waits.length c)) ∧ w.cell? ⟨Q, 4, none⟩ = some (.bool t.dead) := by
  obtain ⟨vn, vl, vw, k⟩ := h
  obtain ⟨c0, -, c2, -, c4⟩ := k.blk.cells
  obtain ⟨p, c, rfl⟩ := row_any k.now
  obtain ⟨q, d, rfl⟩ := row_any k.wait
  exact ⟨⟨p, c, c0⟩, ⟨q, d, c2⟩, c4⟩

/-- Reads of package disk's that leave memory as it is. -/
theorem q_size {w : World} {P : Nat} {s : DS} {n : Nat} {F : Nat → Prop} (h : CD w P s n F) : Calls Try.prog 22 #[.pointer (some ⟨P, 0, none⟩)] w fun e w' => e = .returned (.int .i64 (n : Int)) ∧ w' = w := by
  obtain ⟨vn, vl, vw, ws, l, k, -⟩ := h
  exact k_size k

theorem q_waits {w : World} {P : Nat} {s : DS} {n : Nat} {F : Nat → Prop} (h : CD w P s n F) : Calls Try.prog 16 #[.pointer (some ⟨P, 0, none⟩)] w fun e w' => e = .returned (.int .i64 (s.waits.length : Int)) ∧ w' = w := by
  obtain ⟨vn, vl, vw, ws, l, k, -⟩ := h
  exact k_waits k

theorem q_dead {w : World} {P : Nat} {s : DS} {n : Nat} {F : Nat → Prop} (h : CD w P s n F) : Calls Try.prog 17 #[.pointer (some ⟨P, 0, none⟩)] w fun e w' => e = .returned (.bool s.dead) ∧ w' = w := by
  obtain ⟨vn, vl, vw, ws, l, k, -, -, hl, -⟩ := h
  exact k_dead k hl.1

end Go.Proofs.Ytinplpcobmbekaa
