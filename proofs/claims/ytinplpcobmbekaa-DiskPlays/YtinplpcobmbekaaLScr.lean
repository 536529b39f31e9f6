/-
  Scripts of calls on disks of a law's own: what a call makes of a disk's state; the call as memory holds it; in whatever memory.
-/
import Derived.Test.YtinplpcobmbekaaDText
import Derived.Test.YtinplpcobmbekaaKWrite
import Derived.Test.YtinplpcobmbekaaOpenO
import Derived.Laws.CopyOwn
import Derived.Below
import Derived.Test.YtinplpcobmbekaaProg
import Derived.Handy
import Derived.Deep.QuietTactic
import Derived.WalkSpells
import Derived.WalkLawsBesides
import Derived.BigQuiet
import Derived.PlainAid
import Derived.Deep.RegionWith
import Derived.Laws.BitsAllLaws
import Derived.OwnWalk
import Derived.Laws.OwnMore
import Derived.Deep.RegionHeld3
import Derived.WalkSmall
import Derived.Deep.CutRange
import Derived.BigRegion
import Derived.OneCell
import Derived.Sort.Row
import Derived.ChangeSlices
import Derived.OpenShut
import Derived.Deep.AppendLies
import Derived.Laws.BytesArg
import Derived.Laws.CopyRow
import Derived.Laws.IdiomCopy
import Derived.Deep.OwnRows
import Derived.Deep.RegionLaw
import Derived.ChangeArms
namespace Go.Proofs.Ytinplpcobmbekaa
open Go.RowKit

/-- A call's four numbers at block b. -/
structure OpAt (w : World) (b : Nat) (o : OpD) : Prop where
  c0 : w.cell? ⟨b, 0, none⟩ = some (.int .i64 o.kind)
  c1 : w.cell? ⟨b, 1, none⟩ = some (.int .i64 o.at_)
  c2 : w.cell? ⟨b, 2, none⟩ = some (.int .i64 o.n)
  c3 : w.cell? ⟨b, 3, none⟩ = some (.int .i64 o.keep)

theorem OpAt.lt {w : World} {b : Nat} {o : OpD} (h : OpAt w b o) : b < w.heap.size := World.block_lt_of_cell? _ _ h.c0

theorem OpAt.same {w w' : World} {b : Nat} {o : OpD} (h : OpAt w b o) (hb : w'.heap[b]? = w.heap[b]?) : OpAt w' b o :=
  ⟨(World.cell?_of_block hb).trans h.c0, (World.cell?_of_block hb).trans h.c1, (World.cell?_of_block hb).trans h.c2, (World.cell?_of_block hb).trans h.c3⟩

theorem OpAt.keep {w w' : World} {b : Nat} {o : OpD} (h : OpAt w b o) (hb : Below w.heap.size w w') : OpAt w' b o := h.same (hb.block b h.lt)

theorem OpAt.frm {w w' : World} {F : Nat → Prop} {b : Nat} {o : OpD} (h : OpAt w b o) (hf : Frm F w w') (hF : ¬ F b) : OpAt w' b o := h.same (hf.block b h.lt hF)

/-- A call that lies in a list. -/
theorem ops_at {w : World} {p : Option Addr} {L : List OpD} (h : ∀ (j : Nat) (hj : j < L.length), ∃ g o, p = some ⟨g, o, none⟩ ∧ w.cell? ⟨g, o + j * 4, none⟩ = some (.int .i64 L[j].kind) ∧ w.cell? ⟨g, o + j * 4 + 1, none⟩ = some (.int .i64 L[j].at_) ∧ w.cell? ⟨g, o + j * 4 + 2, none⟩ = some (.int .i64 L[j].n) ∧ w.cell? ⟨g, o + j * 4 + 3, none⟩ = some (.int .i64 L[j].keep) ∧ I64 L[j].kind ∧ I64 L[j].at_ ∧ I64 L[j].n ∧ I64 L[j].keep)
    {w' : World} (hb : Below w.heap.size w w') (j : Nat) (hj : j < L.length) : ∃ g o, p = some ⟨g, o, none⟩ ∧ w'.cell? ⟨g, o + j * 4, none⟩ = some (.int .i64 L[j].kind) ∧ w'.cell? ⟨g, o + j * 4 + 1, none⟩ = some (.int .i64 L[j].at_) ∧ w'.cell? ⟨g, o + j * 4 + 2, none⟩ = some (.int .i64 L[j].n) ∧ w'.cell? ⟨g, o + j * 4 + 3, none⟩ = some (.int .i64 L[j].keep) ∧ I64 L[j].kind ∧ I64 L[j].at_ ∧ I64 L[j].n ∧ I64 L[j].keep := by
  obtain ⟨g, o, e, a, b, c, d, r⟩ := h j hj
  exact ⟨g, o, e, keepCell hb a, keepCell hb b, keepCell hb c, keepCell hb d, r⟩

/-- What a Write of a script writes. -/
def opBs (o : OpD) : List Int := textL o.n (o.n / 256 % 64).toNat

theorem opBs_len (o : OpD) : (opBs o).length ≤ 63 ∧ (opBs o).length = (o.n / 256 % 64).toNat := by
  unfold opBs
  rw [textL_len]
  omega

/-- What a call makes of a disk. -/
def stepD (n : Nat) (s : DS) (o : OpD) : DS := if o.kind = 0 then wrS s n o.at_ (opBs o) else if o.kind = 1 then syS s else if o.kind = 3 then s.stop o.n else if o.kind = 4 then s.crash o.keep else s

theorem stepD_0 {n : Nat} {s : DS} {o : OpD} (h : Hid (o.kind = 0)) : stepD n s o = wrS s n o.at_ (opBs o) := if_pos h.out

theorem stepD_1 {n : Nat} {s : DS} {o : OpD} (h : Hid (o.kind = 1)) : stepD n s o = syS s := by
  have h := h.out
  unfold stepD
  rw [if_neg (by omega), if_pos h]

theorem stepD_3 {n : Nat} {s : DS} {o : OpD} (h : Hid (o.kind = 3)) : stepD n s o = s.stop o.n := by
  have h := h.out
  unfold stepD
  rw [if_neg (by omega), if_neg (by omega), if_pos h]

theorem stepD_4 {n : Nat} {s : DS} {o : OpD} (h : Hid (o.kind = 4)) : stepD n s o = s.crash o.keep := by
  have h := h.out
  unfold stepD
  rw [if_neg (by omega), if_neg (by omega), if_neg (by omega), if_pos h]

theorem stepD_n {n : Nat} {s : DS} {o : OpD} (n0 : ¬ o.kind = 0) (n1 : ¬ o.kind = 1) (n3 : ¬ o.kind = 3) (n4 : ¬ o.kind = 4) : stepD n s o = s := by
  unfold stepD
  rw [if_neg n0, if_neg n1, if_neg n3, if_neg n4]

theorem wrS_few (s : DS) (n : Nat) (a : Int) (b : List Int) : (wrS s n a b).waits.length ≤ s.waits.length + b.length := by
  unfold wrS
  split
  · show (DS.cnt _).waits.length ≤ _
    rw [(cnt_same _).2.2]
    simp [zipAt_len]
  · omega

theorem stepD_few (n : Nat) (s : DS) (o : OpD) : (stepD n s o).waits.length ≤ s.waits.length + 63 := by
  unfold stepD
  split
  · have := wrS_few s n o.at_ (opBs o)
    have := (opBs_len o).1
    omega
  split
  · unfold syS
    split
    · omega
    · show (DS.cnt _).waits.length ≤ _
      rw [(cnt_same _).2.2]
      simp
  split
  · show s.waits.length ≤ _
    omega
  split
  · simp [DS.crash]
  · omega

theorem LD2.swap {B : Nat} {W w : World} {P : Nat} {s : DS} {n : Nat} {F : Nat → Prop} {Q : Nat} {t : DS} {m : Nat} {G : Nat → Prop} (h : LD2 B W w P s n F Q t m G) : LD2 B W w Q t m G P s n F := ⟨h.e, h.d, fun z hz hz' => h.apart z hz' hz⟩

/-- What is written elsewhere leaves two disks as they are. -/
theorem LD2.aside {B : Nat} {W w w' : World} {P : Nat} {s : DS} {n : Nat} {F E : Nat → Prop} {Q : Nat} {t : DS} {m : Nat} {G : Nat → Prop} (h : LD2 B W w P s n F Q t m G) (hf : Frm E w w') (h1 : ∀ z, F z → ¬ E z) (h2 : ∀ z, G z → ¬ E z) (hE : ∀ z, E z → B ≤ z) : LD2 B W w' P s n F Q t m G :=
  have hb := hf.below hE h.d.size
  ⟨⟨h.d.cd.frm hf h1, h.d.bel.trans hb, h.d.fresh, Nat.le_trans h.d.size hf.size⟩, ⟨h.e.cd.frm hf h2, h.e.bel.trans hb, h.e.fresh, Nat.le_trans h.e.size hf.size⟩, h.apart⟩

/-- Two disks, and a call beside them at block b. -/
structure LDO (B : Nat) (W w : World) (P : Nat) (s : DS) (n : Nat) (F : Nat → Prop) (Q : Nat) (t : DS) (m : Nat) (G : Nat → Prop) (b : Nat) (o : OpD) : Prop where
  ds : LD2 B W w P s n F Q t m G
  op : OpAt w b o
  fb : ¬ F b
  gb : ¬ G b

theorem LDO.swap {B : Nat} {W w : World} {P : Nat} {s : DS} {n : Nat} {F : Nat → Prop} {Q : Nat} {t : DS} {m : Nat} {G : Nat → Prop} {b : Nat} {o : OpD} (h : LDO B W w P s n F Q t m G b o) : LDO B W w Q t m G P s n F b o := ⟨h.ds.swap, h.op, h.gb, h.fb⟩

theorem LDO.quiet {B : Nat} {W w w' : World} {P : Nat} {s : DS} {n : Nat} {F : Nat → Prop} {Q : Nat} {t : DS} {m : Nat} {G : Nat → Prop} {b : Nat} {o : OpD} (h : LDO B W w P s n F Q t m G b o) (hb : Below w.heap.size w w') : LDO B W w' P s n F Q t m G b o := ⟨h.ds.quiet hb, h.op.keep hb, h.fb, h.gb⟩

theorem LDO.fst {B : Nat} {W w w' : World} {P : Nat} {s s' : DS} {n : Nat} {F F' : Nat → Prop} {Q : Nat} {t : DS} {m : Nat} {G : Nat → Prop} {b : Nat} {o : OpD} (h : LDO B W w P s n F Q t m G b o) (hc : CD w' P s' n F') (hf : Frm F w w') (hk : ∀ k, F' k → F k ∨ w.heap.size ≤ k) : LDO B W w' P s' n F' Q t m G b o :=
  ⟨h.ds.fst hc hf hk, h.op.frm hf h.fb, fun hz => (hk b hz).elim h.fb fun e => by have := h.op.lt; omega, h.gb⟩

theorem LDO.as {B : Nat} {W w : World} {P : Nat} {s s' : DS} {n : Nat} {F : Nat → Prop} {Q : Nat} {t : DS} {m : Nat} {G : Nat → Prop} {b : Nat} {o : OpD} (h : LDO B W w P s n F Q t m G b o) (e : s' = s) : LDO B W w P s' n F Q t m G b o := e ▸ h

end Go.Proofs.Ytinplpcobmbekaa
